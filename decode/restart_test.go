package decode_test

import (
	"math"
	"testing"

	"confluence/api"
)

// TestD4: of numbers below all, at each checkpoint, one below and one above it, above all.
func TestD4(t *testing.T) {
	b := laid(t, checkpoint(one()))
	var good []int
	note := func(is bool, l ...api.Rec) {
		at := b.lay(l...)
		if is {
			good = append(good, at[0])
		}
	}
	good = append(good, first)
	note(true, checkpoint(one()))
	note(false, begin(1))
	note(false, checkpoint(one()))
	note(false, insert(1, 1, 5), part(2, 1), checkpoint(), release(2), prepare(1, "w"))
	note(false, checkpoint(one()))
	note(false, commit(1))
	note(true, checkpoint(one()))
	note(true, checkpoint())
	note(false, begin(2), begin(3), abort(2))
	note(false, checkpoint())
	note(false, abort(3))
	note(true, checkpoint(one(), table(2, "u", 2)))
	note(false, create(5, table(3, "v", 1)), widen(6, table(3, "v", 2)), drop(7, 3), empty(8, 1))
	note(true, checkpoint())
	note(false, begin(9))
	for _, limit := range limits {
		x := b.open(0, first, limit)
		for {
			// What it has not read yet it does not know.
			var read []int
			for _, at := range good {
				if at < x.Position() {
					read = append(read, at)
				}
			}
			for confirmed := first - 2; confirmed < b.w.End()+2; confirmed++ {
				want := first
				for _, at := range read {
					if at <= confirmed {
						want = at
					}
				}
				if got := x.Restart(confirmed); got != want {
					t.Fatalf("Position %d: Restart(%d): %d, want %d", x.Position(), confirmed, got, want)
				}
			}
			for _, confirmed := range []int{math.MinInt, -1, 0, 1} {
				if got := x.Restart(confirmed); got != first {
					t.Errorf("Restart(%d): %d", confirmed, got)
				}
			}
			for _, confirmed := range []int{1 << 40, math.MaxInt - 1, math.MaxInt} {
				if got := x.Restart(confirmed); got != read[len(read)-1] {
					t.Errorf("Restart(%d): %d", confirmed, got)
				}
			}
			if _, e := x.Step(); e != api.OK {
				is(t, "Step", e, api.ErrDecodeEnd)
				break
			}
		}
	}
}

// TestD4Later: a decoder that began later knows of none ahead of that.
func TestD4Later(t *testing.T) {
	b := laid(t, checkpoint())
	at := b.lay(checkpoint(), begin(1), commit(1), checkpoint())
	x := b.open(0, at[0], 0)
	for _, confirmed := range []int{0, first, at[0] - 1, at[0], math.MaxInt} {
		if got := x.Restart(confirmed); got != at[0] {
			t.Errorf("Restart(%d): %d", confirmed, got)
		}
	}
	x.Ahead(10)
	for confirmed, want := range map[int]int{0: at[0], first: at[0], at[3] - 1: at[0], at[3]: at[3], math.MaxInt: at[3]} {
		if got := x.Restart(confirmed); got != want {
			t.Errorf("Restart(%d): %d, want %d", confirmed, got, want)
		}
	}
}

// TestD4InsideOpen: a decoder may begin at a checkpoint within which a transaction was open, of which it knows nothing: what comes of that one is wrong.
func TestD4InsideOpen(t *testing.T) {
	b := laid(t, begin(1))
	at := b.lay(checkpoint(one()), checkpoint(one()), insert(1, 1, 5), commit(1))
	x := b.open(0, at[0], 0)
	steps(t, x, "", "!201")
	if got := x.Restart(math.MaxInt); got != at[1] {
		t.Errorf("Restart: %d, want %d", got, at[1])
	}
}

// TestD4Turn: a checkpoint at the beginning of a segment is told by its position, wherever the decoder stood ahead of it.
func TestD4Turn(t *testing.T) {
	for _, together := range []bool{false, true} {
		b := laid(t, checkpoint())
		b.fill(9)
		b.flush()
		x := b.open(0, first, 0)
		if !together {
			whole(t, x)
		}
		b.lay(checkpoint())
		whole(t, x)
		for confirmed, want := range map[int]int{2*first - 10: first, 2*first - 9: first, 2*first - 1: first, 2 * first: 2 * first, math.MaxInt: 2 * first} {
			if got := x.Restart(confirmed); got != want {
				t.Errorf("Restart(%d): %d, want %d", confirmed, got, want)
			}
		}
	}
}
