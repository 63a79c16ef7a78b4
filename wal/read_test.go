package wal_test

import (
	"math"
	"testing"

	"confluence/api"
	"confluence/files"
	"confluence/wal"
)

// rows is a log over segments 3 to 7: two records and noughts, noughts alone, noughts alone, one that is full
// to its last byte, and one with two records, of which the first lasts.
func rows(t *testing.T) (*files.Disk, *wal.Log, []entry) {
	t.Helper()
	whole := leaving(0)
	bytes := ""
	for _, s := range whole {
		bytes += framed(s)
	}
	d := loaded(t, 100000, filled(3, framed("a"), framed("bb")), filled(4), filled(5), segment(6, bytes), segment(7, framed("x")))
	l := opened(t, d)
	appends(t, l, "yy", 7*size+8)
	return d, l, []entry{
		{3 * size, "a"}, {3*size + 8, "bb"},
		{6 * size, whole[0]}, {6*size + 4007, whole[1]}, {6*size + 4007 + 7 + len(whole[1]), whole[2]},
		{7 * size, "x"}, {7*size + 8, "yy"},
	}
}

func TestG6Read(t *testing.T) {
	_, l, want := rows(t)
	for i, x := range want {
		next := l.End()
		if i+1 < len(want) {
			next = want[i+1].at
		}
		reads(t, l, x.at, x.payload, next)
	}
}

func TestG6StandsFor(t *testing.T) {
	_, l, want := rows(t)
	for _, lsn := range []int{3*size + 17, 4 * size, 5 * size, 6 * size} {
		reads(t, l, lsn, want[2].payload, want[3].at)
	}
}

func TestG6Order(t *testing.T) {
	d, l, want := rows(t)
	begins := map[int]bool{3*size + 17: true, 4 * size: true, 5 * size: true}
	for _, x := range want {
		begins[x.at] = true
	}
	for lsn := 3 * size; lsn < l.End(); lsn++ {
		if !begins[lsn] {
			readsNot(t, l, lsn, api.ErrWalPlace)
		}
	}
	below := []int{math.MinInt, -8192, -1, 0, 1, 8192, 16384, 3*size - 1}
	above := []int{7*size + 17, 7*size + 18, 8 * size, 8*size + 1, 100000 * size, math.MaxInt - 1, math.MaxInt}
	for range 2 {
		for _, lsn := range below {
			readsNot(t, l, lsn, api.ErrWalGone)
		}
		for _, lsn := range above {
			readsNot(t, l, lsn, api.ErrWalEnd)
		}
		d.Arm(1)
		d.Create("x")
	}
	for _, lsn := range []int{3 * size, 3*size + 1, 3*size + 17, 3*size + 18, 4 * size, 7*size + 16} {
		readsNot(t, l, lsn, api.ErrDead)
	}
}

// TestG6StandsForEnd: ahead of ErrDead: what stands for the end is known of a dead disk, too.
func TestG6StandsForEnd(t *testing.T) {
	whole := ""
	for _, s := range leaving(0) {
		whole += framed(s)
	}
	for _, c := range []struct {
		what      string
		l         []api.File
		end, none []int
	}{
		{"an empty segment", []api.File{segment(1)}, []int{8192}, nil},
		{"one behind a record", []api.File{filled(1, framed("a")), segment(2)}, []int{8200, 16384}, []int{8193, 8199, 8201, 16383}},
		{"segments without a record", []api.File{filled(1, framed("a")), filled(2), filled(3), segment(4)},
			[]int{8200, 16384, 24576, 32768}, []int{8201, 16383, 16385, 24575, 24577, 32767}},
		{"no record at all", []api.File{filled(2), filled(3), segment(4)}, []int{16384, 24576, 32768}, []int{16385, 24577, 32767}},
		{"behind one that is full to its last byte", []api.File{segment(1, whole), filled(2), segment(3)}, []int{16384, 24576}, []int{16383, 16385}},
		{"a record between", []api.File{filled(1, framed("a")), filled(2, framed("b")), segment(3)}, []int{16392, 24576}, []int{16385, 16393, 24575}},
	} {
		d := loaded(t, 100000, c.l...)
		l := opened(t, d)
		for _, lsn := range c.end {
			readsNot(t, l, lsn, api.ErrWalEnd)
			scans(t, l, lsn)
		}
		for _, lsn := range c.none {
			readsNot(t, l, lsn, api.ErrWalPlace)
			scans(t, l, lsn)
		}
		d.Arm(1)
		d.Create("x")
		for _, lsn := range c.end {
			readsNot(t, l, lsn, api.ErrWalEnd)
		}
		for _, lsn := range c.none {
			readsNot(t, l, lsn, api.ErrDead)
		}
		d.Crash(nil)
		l = opened(t, d)
		appends(t, l, "new", l.End())
		for _, lsn := range c.end {
			reads(t, l, lsn, "new", l.End())
		}
	}
}

// TestG6NextIsEnd: the place behind the last record, where segments without a record follow, is the end.
func TestG6NextIsEnd(t *testing.T) {
	l := opened(t, loaded(t, 100000, filled(1, framed("a")), filled(2), filled(3), segment(4)))
	reads(t, l, 8192, "a", 32768)
	l = opened(t, loaded(t, 100000, filled(1, framed("a"))))
	reads(t, l, 8192, "a", 8200)
}

// TestG6EmptyRecordsBehindTrim: what stands for the end when all records are trimmed.
func TestG6EmptyRecordsBehindTrim(t *testing.T) {
	l := opened(t, loaded(t, 100000, filled(1, framed("a")), filled(2), filled(3), segment(4)))
	trims(t, l, 24576, 2, api.OK)
	stands(t, l, 24576, 32768, 32768)
	readsNot(t, l, 8200, api.ErrWalGone)
	readsNot(t, l, 16384, api.ErrWalGone)
	readsNot(t, l, 24576, api.ErrWalEnd)
	readsNot(t, l, 24577, api.ErrWalPlace)
	appends(t, l, "b", 32768)
	reads(t, l, 24576, "b", 32776)
}

func TestG7Scan(t *testing.T) {
	d, l, want := rows(t)
	lasting := want[:6]
	for i, x := range lasting {
		scans(t, l, x.at, lasting[i:]...)
	}
	for _, from := range []int{math.MinInt, -1, 0, 8192, 3*size - 1} {
		scans(t, l, from, lasting...)
	}
	for _, from := range []int{3*size + 17, 4 * size, 5 * size} {
		scans(t, l, from, lasting[2:]...)
	}
	for _, from := range []int{3*size + 1, 3*size + 16, 3*size + 18, 4*size - 1, 4*size + 1, 6*size + 1, 7*size - 1, 7*size + 1,
		7*size + 8, 7*size + 9, 7*size + 17, 8 * size, math.MaxInt} {
		scans(t, l, from)
	}
	is(t, "Flush", l.Flush(), api.OK)
	for i, x := range want {
		scans(t, l, x.at, want[i:]...)
	}
	d.Arm(1)
	d.Create("x")
	for _, from := range []int{0, 3 * size, 7 * size} {
		scans(t, l, from)
	}
}

// TestG7WhatLasts: what lasts is told when the loop begins, not when Scan is called.
func TestG7WhatLasts(t *testing.T) {
	d, l := begun(t, 100000)
	appends(t, l, "a", 8192)
	is(t, "Flush", l.Flush(), api.OK)
	appends(t, l, "b", 8200)
	records := l.Scan(0)
	count := func() int {
		n := 0
		for range records {
			n++
		}
		return n
	}
	if n := count(); n != 1 {
		t.Errorf("%d records last", n)
	}
	is(t, "Flush", l.Flush(), api.OK)
	if n := count(); n != 2 {
		t.Errorf("%d records last", n)
	}
	d.Arm(1)
	d.Create("x")
	if n := count(); n != 0 {
		t.Errorf("%d records of a dead disk", n)
	}
}

// TestG7NotYet: a place that stands for a record that does not last yet.
func TestG7NotYet(t *testing.T) {
	_, l, payloads := turning(t, 100000)
	appends(t, l, sized(200), 16384)
	stands(t, l, 8192, 16384, 16584)
	scans(t, l, 16284)
	scans(t, l, 16384)
	scans(t, l, 12199, entry{12199, payloads[1]}, entry{16206, payloads[2]})
	is(t, "Flush", l.Flush(), api.OK)
	scans(t, l, 16284, entry{16384, sized(200)})
	scans(t, l, 16384, entry{16384, sized(200)})
}

// TestG7Loops: a scan may be left early, gone over again, and gone over within itself.
func TestG7Loops(t *testing.T) {
	_, l, want := rows(t)
	want = want[:6]
	records := l.Scan(0)
	for stop := range want {
		n := 0
		for at, s := range records {
			if (entry{at, s}) != want[n] {
				t.Fatalf("record %d: %d, %s", n, at, short(s))
			}
			if n == stop {
				break
			}
			n++
		}
		if n != stop {
			t.Errorf("left behind %d records, not %d", n, stop)
		}
	}
	outer := 0
	for at := range records {
		if at != want[outer].at {
			t.Fatalf("the outer loop is at %d, want %d", at, want[outer].at)
		}
		outer++
		inner := 0
		for at, s := range records {
			if (entry{at, s}) != want[inner] {
				t.Fatalf("the inner loop is at %d, want %d", at, want[inner].at)
			}
			inner++
		}
		if inner != len(want) {
			t.Errorf("the inner loop had %d records", inner)
		}
	}
	if outer != len(want) {
		t.Errorf("the outer loop had %d records", outer)
	}
}

// TestG7InDoubt: a log in doubt is read as it was.
func TestG7InDoubt(t *testing.T) {
	d, l, want := rows(t)
	is(t, "FailSync", d.FailSync(1), api.OK)
	is(t, "Flush", l.Flush(), api.ErrWalDoubt)
	scans(t, l, 0, want[:6]...)
	for _, x := range want[:6] {
		if s, _, e := l.Read(x.at); s != x.payload || e != api.OK {
			t.Errorf("Read(%d): %s, %d", x.at, short(s), e)
		}
	}
	reads(t, l, 7*size+8, "yy", 7*size+17)
}

// TestReadNoAct: whoever reads changes nothing.
func TestReadNoAct(t *testing.T) {
	d, l, _ := rows(t)
	before := bytesOf(t, d)
	costs(t, d, 0, "Read and Scan", func() {
		for lsn := 3*size - 2; lsn < 3*size+20; lsn++ {
			l.Read(lsn)
			scanned(l, lsn)
		}
		holds(t, d, before...)
		stands(t, l, 3*size, 7*size+8, 7*size+17)
	})
}
