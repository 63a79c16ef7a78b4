package wal_test

import (
	"math/rand"
	"slices"
	"testing"

	"confluence/api"
	"confluence/files"
	"confluence/wal"
)

// work is what was appended, and how much of it a Flush has let last.
type work struct {
	records []entry
	flushed int
}

// play appends and flushes, till something is refused.
func (w *work) play(l *wal.Log, lengths []int) {
	for i, n := range lengths {
		s := string(rune('a'+i%26)) + sized(n)
		at, e := l.Append(s)
		if e != api.OK {
			return
		}
		w.records = append(w.records, entry{at, s})
		if i%4 == 2 {
			if l.Flush() != api.OK {
				return
			}
			w.flushed = len(w.records)
		}
	}
}

// hold opens the disk, and holds its records against what was appended.
func (w *work) hold(t *testing.T, d *files.Disk) {
	t.Helper()
	got := scanned(opened(t, d), 0)
	if len(got) < w.flushed || len(got) > len(w.records) || !slices.Equal(got, w.records[:len(got)]) {
		t.Fatalf("%d records are there, of %d, of which %d were flushed: %s", len(got), len(w.records), w.flushed, places(got))
	}
	before := bytesOf(t, d)
	costs(t, d, 0, "a second Open", func() {
		l := opened(t, d)
		holds(t, d, before...)
		if !slices.Equal(scanned(l, 0), got) {
			t.Error("a second Open finds other records")
		}
		var payloads []string
		for _, x := range got {
			payloads = append(payloads, x.payload)
		}
		if !slices.Equal(chained(t, l), payloads) {
			t.Error("Read finds other records than Scan")
		}
	})
}

// lengths has those of frames that fill segments in different ways: to the last byte, with noughts, with one record alone.
func lengths() []int {
	return []int{3000, 3000, 2189, 8, 4000, 4000, 4006, 4000, 100, 8, 9, 4006, 4006, 4006, 2000, 2000, 2000, 2000, 300}
}

// cut lets a disk crash, with some of what is pending: of each file none, all, or a number between.
func cut(t *testing.T, d *files.Disk, source *rand.Rand) {
	t.Helper()
	var l []api.Keep
	for _, name := range d.List() {
		n := d.Pending(name)
		l = append(l, api.Keep{Name: name, Bytes: []int{0, n, source.Intn(n + 1)}[source.Intn(3)]})
	}
	is(t, "Crash", d.Crash(l), api.OK)
}

// TestG9Dies: in whatever act the disk dies, and whatever is cut off.
func TestG9Dies(t *testing.T) {
	source := rand.New(rand.NewSource(9))
	for n := 1; n < 50; n++ {
		for range 15 {
			d, l := begun(t, 100000)
			is(t, "Arm", d.Arm(n), api.OK)
			w := &work{}
			w.play(l, lengths())
			cut(t, d, source)
			w.hold(t, d)
		}
	}
}

// TestG9Fails: whichever Sync fails, and however much room there is; with a crash behind it or without one.
func TestG9Fails(t *testing.T) {
	source := rand.New(rand.NewSource(10))
	for n := range 15 {
		for range 30 {
			capacity := 100000
			if source.Intn(2) == 0 {
				capacity = 1 + source.Intn(60000)
			}
			d, l := begun(t, capacity)
			is(t, "FailSync", d.FailSync(n), api.OK)
			w := &work{}
			w.play(l, lengths())
			if source.Intn(2) == 0 {
				cut(t, d, source)
			}
			is(t, "FailSync", d.FailSync(0), api.OK)
			w.hold(t, d)
		}
	}
}

// TestG9EachCut: each number of bytes that a crash may keep of what is pending.
func TestG9EachCut(t *testing.T) {
	_, l := begun(t, 100000)
	w := &work{}
	w.play(l, []int{20, 30, 40, 50, 60})
	for keep := range 125 {
		d, l := begun(t, 100000)
		again := &work{}
		again.play(l, []int{20, 30, 40, 50, 60})
		if !slices.Equal(again.records, w.records) || again.flushed != 3 {
			t.Fatal("played otherwise")
		}
		if n := d.Pending(named(1)); keep > n {
			break
		}
		is(t, "Crash", d.Crash([]api.Keep{{Name: named(1), Bytes: keep}}), api.OK)
		want := 3
		for _, x := range w.records[3:] {
			if x.at+7+len(x.payload) <= w.records[3].at+keep {
				want++
			}
		}
		if got := len(scanned(opened(t, d), 0)); got != want {
			t.Errorf("%d bytes are kept: %d records, want %d", keep, got, want)
		}
	}
}

// TestG9Again: a log that is opened anew is gone on with, crash by crash, also where the disk dies in Open.
func TestG9Again(t *testing.T) {
	source := rand.New(rand.NewSource(11))
	for range 60 {
		d, l := begun(t, 400000)
		w := &work{}
		for range 8 {
			d.Arm(1 + source.Intn(25))
			w.play(l, lengths()[source.Intn(10):])
			cut(t, d, source)
			d.Arm(1 + source.Intn(3))
			if _, e := wal.Open(d); e != api.OK {
				is(t, "Open in which the disk dies", e, api.ErrDead)
				is(t, "Crash", d.Crash(nil), api.OK)
			}
			d.Arm(0)
			l = opened(t, d)
			got := scanned(l, 0)
			if len(got) < w.flushed || len(got) > len(w.records) || !slices.Equal(got, w.records[:len(got)]) {
				t.Fatalf("%d records are there, of %d, of which %d were flushed", len(got), len(w.records), w.flushed)
			}
			w.records, w.flushed = w.records[:len(got):len(got)], len(got)
		}
	}
}
