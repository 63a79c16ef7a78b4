package decode_test

import (
	"fmt"
	"math/rand"
	"slices"
	"testing"

	"confluence/api"
	"confluence/decode"
	"confluence/files"
)

// busy is a log with three transactions that need room, one of which is aborted, behind a first one that does not.
func busy(t *testing.T) *bench {
	t.Helper()
	b := laid(t, checkpoint(one()), begin(9), insert(9, 1, 9), commit(9), begin(1), begin(2), begin(3))
	for n := range 6 {
		b.lay(insert(1, 1, n), insert(2, 1, 10+n), insert(3, 1, 20+n))
	}
	b.lay(abort(2), commit(3), begin(4), insert(4, 1, 4), commit(1), commit(4))
	return b
}

// acts is how many acts a decoder does, to the end.
func acts(t *testing.T, limit int) int {
	t.Helper()
	for n := 1; ; n++ {
		b := busy(t)
		x := b.open(0, first, limit)
		is(t, "Arm", b.d.Arm(n), api.OK)
		all(x)
		if !b.d.Dead() {
			return n - 1
		}
	}
}

// TestDies: the disk dies at each act of a decoder, with each limit, be it read by Step or by Ahead: ErrDead is told at that record, for ever, and what was told ahead of it stays told; opened anew, a decoder tells all.
func TestDies(t *testing.T) {
	most := 0
	for _, limit := range limits {
		n := acts(t, limit)
		most = max(most, n)
		want := whole(t, busy(t).open(0, first, never))
		for act := 1; act <= n; act++ {
			b := busy(t)
			x := b.open(0, first, limit)
			m := modelOf(t, b.w, slotAt(0, first), limit, b.d.Free())
			is(t, "Arm", b.d.Arm(act), api.OK)
			is(t, "Arm", m.d.Arm(act), api.OK)
			var told []string
			for {
				l, e := x.Step()
				if a := m.step(); !same(answer{l, e}, a) {
					t.Fatalf("limit %d, act %d: %s, want %s", limit, act, answer{l, e}, a)
				}
				m.holds(x)
				told = append(told, l...)
				if e != api.OK {
					is(t, "Step", e, api.ErrDead)
					break
				}
			}
			if !b.d.Dead() || len(told) > len(want) || !slices.Equal(told, want[:len(told)]) {
				t.Errorf("limit %d, act %d: told %s", limit, act, words(told))
			}
			stays(b, x, api.ErrDead)
			revive(t, b.d)
			again(t, b, x, told, want)
			byAhead(t, limit, act, told)
		}
	}
	if most < 30 {
		t.Errorf("%d acts at most", most)
	}
}

// again reads on behind a death: by the old decoder nothing, by a new one all.
func again(t *testing.T, b *bench, x *decode.Decoder, told, want []string) {
	t.Helper()
	steps(t, x, "!2", "!2")
	confirmed := 0
	if len(told) > 0 {
		confirmed = endOf(t, told[len(told)-1])
	}
	y := b.open(confirmed, x.Restart(confirmed), 50)
	if got := whole(t, y); !slices.Equal(got, want[len(told):]) {
		t.Errorf("opened anew behind %d: told %s, want %s", confirmed, words(got), words(want[len(told):]))
	}
	b.clean()
}

// byAhead reads the same by Ahead.
func byAhead(t *testing.T, limit, act int, want []string) {
	t.Helper()
	for _, n := range []int{1, 3, 1000} {
		b := busy(t)
		x := b.open(0, first, limit)
		is(t, "Arm", b.d.Arm(act), api.OK)
		var told []string
		for {
			l, e := x.Ahead(n)
			told = append(told, l...)
			if e != api.OK {
				is(t, "Ahead", e, api.ErrDead)
				break
			}
		}
		if !slices.Equal(told, want) {
			t.Errorf("limit %d, act %d: Ahead(%d) told %s, want %s", limit, act, n, words(told), words(want))
		}
		stays(b, x, api.ErrDead)
	}
}

// TestSyncFails: a decoder syncs nothing: a Sync that is to fail does not disturb it, and fails for whoever comes next.
func TestSyncFails(t *testing.T) {
	want := whole(t, busy(t).open(0, first, never))
	for _, limit := range limits {
		b := busy(t)
		is(t, "FailSync", b.d.FailSync(1), api.OK)
		if got := whole(t, b.open(0, first, limit)); !slices.Equal(got, want) {
			t.Errorf("limit %d: told %s", limit, words(got))
		}
		b.clean()
		is(t, "Sync", b.d.Sync("wal.000001"), api.ErrFileSync)
	}
}

// TestNoActs: with a limit that is not reached nothing is written, and no disk is asked but for the log.
func TestNoActs(t *testing.T) {
	b := busy(t)
	costs(t, b.d, 0, "all", func() { whole(t, b.open(0, first, never)) })
	// Files on a disk that is dead: nobody asks it as long as nothing needs room.
	other, _ := files.New(1000)
	x, e := decode.Open(b.w, other, slotAt(0, first), never)
	is(t, "Open", e, api.OK)
	kill(t, other)
	if got := whole(t, x); len(got) == 0 {
		t.Error("nothing was told")
	}
	y, e := decode.Open(b.w, b.d, slotAt(0, first), 0)
	is(t, "Open", e, api.OK)
	if got := whole(t, y); len(got) == 0 {
		t.Error("nothing was told")
	}
}

// TestOtherDies: the other disk, which has the files alone, dies at each act: that is told, and the log's lives.
func TestOtherDies(t *testing.T) {
	n := acts(t, 100)
	for act := 1; act <= n; act++ {
		b := busy(t)
		other, _ := files.New(100000)
		x, e := decode.Open(b.w, other, slotAt(0, first), 100)
		is(t, "Open", e, api.OK)
		is(t, "Arm", other.Arm(act), api.OK)
		l := all(x)
		is(t, "Step", l[len(l)-1].e, api.ErrDead)
		revive(t, other)
		stays(b, x, api.ErrDead)
	}
}

// TestFull: a disk that has room for the log and some of what is written: ErrFileFull, at the record that needs it, for ever.
func TestFull(t *testing.T) {
	came := map[api.Errno]int{}
	for _, limit := range []int{0, 40, 100, 300} {
		for room := 0; room < 600; room += 7 {
			b := busy(t)
			other, _ := files.New(room + 1)
			x, e := decode.Open(b.w, other, slotAt(0, first), limit)
			is(t, "Open", e, api.OK)
			m := modelOf(t, b.w, slotAt(0, first), limit, room+1)
			for {
				l, e := x.Step()
				if a := m.step(); !same(answer{l, e}, a) {
					t.Fatalf("limit %d, room %d: %s, want %s", limit, room, answer{l, e}, a)
				}
				m.holds(x)
				if e != api.OK {
					came[e]++
					if e != api.ErrDecodeEnd {
						stays(b, x, e)
					}
					break
				}
			}
		}
	}
	if came[api.ErrFileFull] < 20 || came[api.ErrDecodeEnd] < 20 || len(came) != 2 {
		t.Errorf("too little came: %v", came)
	}
}

// TestDiesRandom: random logs, on a disk that dies somewhere, or has little room.
func TestDiesRandom(t *testing.T) {
	came := map[api.Errno]int{}
	for seed := range int64(150) {
		r := rand.New(rand.NewSource(seed))
		w := writerOf(t, r, 2)
		for range 100 {
			w.write()
		}
		w.flush()
		limit := []int{0, 50, 200, 1000}[r.Intn(4)]
		room := w.d.Free()
		if r.Intn(3) == 0 {
			room = 100 + r.Intn(1500)
			is(t, "Create", w.d.Create("ballast"), api.OK)
			is(t, "Append", w.d.Append("ballast", string(make([]byte, w.d.Free()-room))), api.OK)
		}
		x := slotAt(0, w.from)
		d, m := w.opens(x, limit), modelOf(t, w.w, x, limit, room)
		act := r.Intn(60)
		is(t, "Arm", w.d.Arm(act), api.OK)
		is(t, "Arm", m.d.Arm(act), api.OK)
		for {
			n := 1 + r.Intn(4)
			l, e := d.Ahead(n)
			if a := m.ahead(n); !same(answer{l, e}, a) {
				t.Fatalf("seed %d: %s, want %s", seed, answer{l, e}, a)
			}
			m.holds(d)
			if e != api.OK {
				came[e]++
				break
			}
		}
	}
	for _, e := range []api.Errno{api.ErrDead, api.ErrFileFull, api.ErrDecodeEnd, api.ErrDecodeLog} {
		if came[e] < 5 {
			t.Errorf("too little came: %v", came)
		}
	}
}

// TestFilesAreItsOwn: what is written stands under the slot's name and the transaction's number, and goes when that is over.
func TestFilesAreItsOwn(t *testing.T) {
	b := laid(t, checkpoint(one()), begin(77), insert(77, 1, 1), insert(77, 1, 2), begin(78), insert(78, 1, 3), insert(78, 1, 4), commit(77), abort(78))
	x := slotAt(0, first)
	x.Name = "abcdefghijklmnop"
	d := b.opens(x, 0)
	want := func(names ...string) {
		t.Helper()
		for i, s := range names {
			names[i] = "spill.abcdefghijklmnop." + s
		}
		if got := spilled(b.d); !slices.Equal(got, names) {
			t.Errorf("the files are %q, want %q", got, names)
		}
	}
	nothing(t, d, 3)
	want("77.0")
	nothing(t, d, 3)
	want("77.0", "77.1", "78.0")
	steps(t, d, "begin 77, t 1.1, +1(1), +1(2), commit 77")
	want("78.0")
	steps(t, d, "")
	want()
	if got := fmt.Sprint(b.d.List()); got != "[wal.000001]" {
		t.Errorf("the files are %s", got)
	}
}
