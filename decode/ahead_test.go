package decode_test

import (
	"math"
	"runtime"
	"slices"
	"strings"
	"testing"
	"time"

	"confluence/api"
	"confluence/decode"
)

// some is a log with four transactions, one behind the other.
func some(t *testing.T) *bench {
	t.Helper()
	b := laid(t, checkpoint(one()))
	for xid := 1; xid <= 4; xid++ {
		b.lay(begin(xid), insert(xid, 1, xid), insert(xid, 1, 10*xid), commit(xid))
	}
	return b
}

// TestD3Arg: n below 1.
func TestD3Arg(t *testing.T) {
	b := some(t)
	x := b.open(0, first, 0)
	for _, n := range []int{0, -1, math.MinInt} {
		was := standingOf(b, x)
		if l, e := x.Ahead(n); len(l) > 0 || e != api.ErrArg {
			t.Errorf("Ahead(%d): %s, %d", n, words(l), e)
		}
		if standingOf(b, x) != was {
			t.Errorf("Ahead(%d) changed something", n)
		}
	}
	if l := whole(t, x); strings.Count(words(l), "commit") != 4 {
		t.Errorf("told %s", words(l))
	}
	for _, n := range []int{0, -1} {
		if l, e := x.Ahead(n); len(l) > 0 || e != api.ErrArg {
			t.Errorf("Ahead(%d) at the end: %s, %d", n, words(l), e)
		}
	}
}

// TestD3Each: Ahead of each number is what so many Steps answer, and leaves the decoder as they do.
func TestD3Each(t *testing.T) {
	b := some(t)
	for _, limit := range limits {
		for skip := range 16 {
			for _, n := range []int{1, 2, 3, 4, 5, 8, 15, 16, 17, 1000, math.MaxInt} {
				x, y := b.open(0, first, limit), b.named("b", limit)
				for range skip {
					x.Step()
					y.Step()
				}
				var want []string
				for i := 0; i < n; i++ {
					l, e := x.Step()
					if e != api.OK {
						break
					}
					want = append(want, l...)
				}
				got, e := y.Ahead(n)
				if !slices.Equal(got, want) || e != api.OK {
					t.Errorf("Ahead(%d) behind %d: %s, %d, want %s", n, skip, words(got), e, words(want))
				}
				if standingOf(b, x) != standingOf(b, y) {
					t.Errorf("Ahead(%d) behind %d: %+v, want %+v", n, skip, standingOf(b, y), standingOf(b, x))
				}
			}
		}
	}
}

// TestD3Many: more records than any channel would hold.
func TestD3Many(t *testing.T) {
	b := laid(t, checkpoint())
	var at []int
	for range 1500 {
		at = append(at, b.put(begin(1), abort(1))...)
	}
	b.flush()
	for _, n := range []int{1000, 1025, 2999, 3000, 3001, math.MaxInt} {
		x := b.open(0, first, 0)
		if l, e := x.Ahead(n); len(l) > 0 || e != api.OK {
			t.Errorf("Ahead(%d): %s, %d", n, words(l), e)
		}
		if want := append(at, b.w.End())[min(n, len(at))]; x.Position() != want {
			t.Errorf("Ahead(%d): Position %d, want %d", n, x.Position(), want)
		}
	}
}

// named is a decoder of another name, from the log's beginning on.
func (b *bench) named(name string, limit int) *decode.Decoder {
	b.t.Helper()
	x := slotAt(0, first)
	x.Name = name
	return b.opens(x, limit)
}

// TestD3End: at the end it is the error, and behind something that was read it is what was told; what comes then is read.
func TestD3End(t *testing.T) {
	b := some(t)
	x := b.open(0, first, 0)
	if l, e := x.Ahead(17); len(l) != 4*5 || e != api.OK {
		t.Errorf("Ahead: %s, %d", words(l), e)
	}
	for range 2 {
		if l, e := x.Ahead(2); len(l) > 0 || e != api.ErrDecodeEnd {
			t.Errorf("Ahead at the end: %s, %d", words(l), e)
		}
	}
	b.lay(begin(5))
	// Nothing is told, but the end was not the first.
	if l, e := x.Ahead(2); len(l) > 0 || e != api.OK {
		t.Errorf("Ahead: %s, %d", words(l), e)
	}
	if l, e := x.Ahead(1); len(l) > 0 || e != api.ErrDecodeEnd {
		t.Errorf("Ahead: %s, %d", words(l), e)
	}
	b.put(insert(5, 1, 7), commit(5))
	if l, e := x.Ahead(9); len(l) > 0 || e != api.ErrDecodeEnd {
		t.Errorf("Ahead of what does not last: %s, %d", words(l), e)
	}
	b.flush()
	if l, e := x.Ahead(9); words(l) != "begin 5, t 1.1, +1(7), commit 5" || e != api.OK {
		t.Errorf("Ahead: %s, %d", words(l), e)
	}
}

// TestD3Dead: the disk is dead: the error, and for ever.
func TestD3Dead(t *testing.T) {
	b := some(t)
	x := b.open(0, first, 0)
	if l, e := x.Ahead(5); words(l) != "begin 1, t 1.1, +1(1), +1(10), commit 1" || e != api.OK {
		t.Errorf("Ahead: %s, %d", words(l), e)
	}
	kill(t, b.d)
	if l, e := x.Ahead(5); len(l) > 0 || e != api.ErrDead {
		t.Errorf("Ahead: %s, %d", words(l), e)
	}
	revive(t, b.d)
	stays(b, x, api.ErrDead)
}

// settled waits till no more goroutines run than before.
func settled(t *testing.T, before int) {
	t.Helper()
	for range 1000 {
		if runtime.NumGoroutine() <= before {
			return
		}
		time.Sleep(time.Millisecond)
	}
	t.Errorf("%d goroutines run, %d did before", runtime.NumGoroutine(), before)
}

// TestGoroutines: none is left, whether Ahead ended by n, by the end, by what could not be read, by what was refused, by the disk, at once or later.
func TestGoroutines(t *testing.T) {
	before := runtime.NumGoroutine()
	for range 50 {
		b := some(t)
		x := b.open(0, first, 0)
		x.Ahead(1)
		x.Ahead(6)
		x.Ahead(0)
		x.Ahead(100)
		x.Ahead(100)
		b.lay(begin(8))
		b.raw("no record")
		b.flush()
		x.Ahead(10)
		x.Ahead(10)
		b = some(t)
		b.lay(begin(5), commit(6))
		x = b.open(0, first, 0)
		x.Ahead(100)
		x.Ahead(100)
		x = b.open(0, first, 0)
		is(t, "Arm", b.d.Arm(2), api.OK)
		x.Ahead(100)
		x.Ahead(100)
	}
	settled(t, before)
}

// TestAheadLeftAlone: a decoder that is forgotten in the midst leaves nothing either.
func TestAheadLeftAlone(t *testing.T) {
	before := runtime.NumGoroutine()
	b := some(t)
	for i := range 100 {
		x := b.open(0, first, i)
		x.Ahead(1 + i%20)
	}
	settled(t, before)
}
