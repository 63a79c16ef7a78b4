package link_test

import (
	"slices"
	"testing"

	"confluence/api"
	"confluence/link"
)

func TestK5(t *testing.T) {
	for _, n := range []int{0, 1, 100, 8191, 8192, 9000, top - 1, top} {
		r := receiver(t, n)
		has(t, r, n, n)
		is(t, "Done of what it has", r.Done(n), api.OK)
		if n < top {
			takes(t, r, frameOf(n, n+1, 0, 1, "a"), n+1, "a")
			has(t, r, n+1, n)
		}
	}
	for _, n := range noPositions {
		if r, e := link.NewReceiver(n); r != nil || e != api.ErrArg {
			t.Errorf("NewReceiver(%d): %v, %d", n, r, e)
		}
	}
}

// TestK6Places: each end and each place behind which it comes, around what the receiver has.
func TestK6Places(t *testing.T) {
	const have = 1000
	places := []int{0, 1, 500, have - 2, have - 1, have, have + 1, have + 2, 5000, top - 1, top}
	for _, behind := range places {
		for _, end := range places {
			for _, pieces := range []int{1, 2, 65535} {
				r := receiver(t, have)
				f := frameOf(behind, end, pieces-1, pieces, "a", "")
				switch {
				case end <= behind:
					takesNot(t, r, f, api.ErrLinkFrame)
				case end <= have:
					takesNot(t, r, f, api.ErrLinkOld)
				case behind > have:
					takesNot(t, r, f, api.ErrLinkGap)
				case pieces > 1:
					waits(t, r, f)
					takesNot(t, r, f, api.ErrLinkOld)
				default:
					takes(t, r, f, end, "a", "")
					has(t, r, end, have)
					continue
				}
				has(t, r, have, have)
			}
		}
	}
}

// TestK6Ends: from the first place to the last one, of transactions with and without messages.
func TestK6Ends(t *testing.T) {
	r := receiver(t, 0)
	takes(t, r, frameOf(0, 1, 0, 1), 1)
	takes(t, r, frameOf(1, 2, 0, 1, ""), 2, "")
	takes(t, r, frameOf(0, top-1, 0, 1, "a", "", "b"), top-1, "a", "", "b")
	takes(t, r, frameOf(top-1, top, 0, 1), top)
	takesNot(t, r, frameOf(top-1, top, 0, 1), api.ErrLinkOld)
	takesNot(t, r, frameOf(0, top, 1, 2, "a"), api.ErrLinkOld)
	has(t, r, top, 0)
}

// orders are all orders of the first n numbers.
func orders(n int) [][]int {
	if n == 0 {
		return [][]int{nil}
	}
	var out [][]int
	for _, l := range orders(n - 1) {
		for at := range n {
			out = append(out, slices.Insert(slices.Clone(l), at, n-1))
		}
	}
	return out
}

// TestK6EachOrder: pieces in each order, each once or several times: nothing until the last one is there, then all messages in their order.
func TestK6EachOrder(t *testing.T) {
	all := [][]string{{"a", "b"}, {""}, {"c"}, {"d", "", "e"}, {chars("f", 4000), chars("g", 4000)}}
	for n := 1; n <= len(all); n++ {
		want := slices.Concat(all[:n]...)
		for _, order := range orders(n) {
			for _, times := range []int{1, 3} {
				r := receiver(t, 7)
				for k, number := range order {
					f := frameOf(5, 20, number, n, all[number]...)
					if k == n-1 {
						takes(t, r, f, 20, want...)
					} else {
						waits(t, r, f)
					}
					for range times - 1 {
						for _, again := range order[:k+1] {
							takesNot(t, r, frameOf(5, 20, again, n, all[again]...), api.ErrLinkOld)
						}
					}
				}
				has(t, r, 20, 7)
			}
		}
	}
}

// TestK6SamePiece: what a piece says that waits already does not matter: the first one stays.
func TestK6SamePiece(t *testing.T) {
	r := receiver(t, 0)
	waits(t, r, frameOf(0, 10, 1, 2, "first"))
	takesNot(t, r, frameOf(0, 10, 1, 2, "second"), api.ErrLinkOld)
	takesNot(t, r, frameOf(0, 10, 1, 2, "second", "third"), api.ErrLinkOld)
	takes(t, r, frameOf(0, 10, 0, 2, "ahead"), 10, "ahead", "first")
}

// TestK6Forgotten: a piece of another transaction lets those be forgotten that wait: with another end, another place, another number of pieces.
func TestK6Forgotten(t *testing.T) {
	for _, other := range []struct{ behind, end, pieces int }{{5, 21, 3}, {5, 19, 3}, {5, 11, 3}, {4, 20, 3}, {0, 20, 3}, {10, 20, 3}, {5, 20, 2}, {5, 20, 4}, {5, 20, 65535}, {4, 21, 2}} {
		for number := range min(other.pieces, 4) {
			r := receiver(t, 10)
			waits(t, r, frameOf(5, 20, 0, 3, "a"))
			waits(t, r, frameOf(5, 20, 1, 3, "b"))
			f := frameOf(other.behind, other.end, number, other.pieces, "x")
			waits(t, r, f)
			takesNot(t, r, f, api.ErrLinkOld)
			has(t, r, 10, 10)
			waits(t, r, frameOf(5, 20, 2, 3, "c"))
			waits(t, r, f)
			waits(t, r, frameOf(5, 20, 0, 3, "d"))
			waits(t, r, frameOf(5, 20, 2, 3, "e"))
			takes(t, r, frameOf(5, 20, 1, 3, "f"), 20, "d", "f", "e")
		}
	}
}

// TestK6WholeForgets: one of a single piece is whole at once; what waited of another is gone.
func TestK6WholeForgets(t *testing.T) {
	for _, other := range []struct{ behind, end int }{{5, 20}, {4, 20}, {5, 15}, {10, 19}} {
		for _, messages := range [][]string{nil, {""}, {"x", "y"}} {
			r := receiver(t, 10)
			waits(t, r, frameOf(5, 20, 0, 2, "a"))
			takes(t, r, frameOf(other.behind, other.end, 0, 1, messages...), other.end, messages...)
			has(t, r, other.end, 10)
			if other.end >= 20 {
				takesNot(t, r, frameOf(5, 20, 1, 2, "b"), api.ErrLinkOld)
				continue
			}
			waits(t, r, frameOf(5, 20, 1, 2, "b"))
			takes(t, r, frameOf(5, 20, 0, 2, "c"), 20, "c", "b")
		}
	}
}

// TestK6RefusedForgetsNot: what is refused leaves what waits.
func TestK6RefusedForgetsNot(t *testing.T) {
	r := receiver(t, 10)
	waits(t, r, frameOf(5, 20, 0, 2, "a"))
	takesNot(t, r, frameOf(11, 20, 0, 2, "gap"), api.ErrLinkGap)
	takesNot(t, r, frameOf(11, 30, 0, 1, "gap"), api.ErrLinkGap)
	takesNot(t, r, frameOf(20, 30, 0, 1), api.ErrLinkGap)
	takesNot(t, r, frameOf(5, 10, 0, 2, "old"), api.ErrLinkOld)
	takesNot(t, r, frameOf(5, 9, 0, 1), api.ErrLinkOld)
	takesNot(t, r, frameOf(5, 20, 0, 2, "old"), api.ErrLinkOld)
	takesNot(t, r, frameOf(5, 20, 2, 2, "no"), api.ErrLinkFrame)
	takesNot(t, r, frameOf(5, 20, 1, 2), api.ErrLinkFrame)
	takesNot(t, r, "", api.ErrLinkFrame)
	takesNot(t, r, wordOf(10), api.ErrLinkFrame)
	is(t, "Done", r.Done(10), api.OK)
	is(t, "Done", r.Done(20), api.ErrLinkOrder)
	is(t, "Done", r.Done(-1), api.ErrArg)
	has(t, r, 10, 10)
	takes(t, r, frameOf(5, 20, 1, 2, "b"), 20, "a", "b")
}

// TestK6NoneWaits: behind a whole transaction nothing of it is left over for another.
func TestK6NoneWaits(t *testing.T) {
	r := receiver(t, 0)
	for end := 10; end < 100; end += 10 {
		waits(t, r, frameOf(end-10, end, 1, 3, "b"))
		waits(t, r, frameOf(end-10, end, 0, 3, "a", digits(end)))
		takes(t, r, frameOf(end-10, end, 2, 3, "c"), end, "a", digits(end), "b", "c")
		has(t, r, end, 0)
	}
}

// TestK6FirstNamed: of several errors the one that is named first. (An end that is old and a place that is too far on never go together in a right frame.)
func TestK6FirstNamed(t *testing.T) {
	r := receiver(t, 100)
	for _, f := range []string{frameOf(90, 90, 0, 1, "a"), frameOf(90, 80, 0, 1), frameOf(0, 50, 1, 1), frameOf(0, 50, 0, 2), frameOf(0, 50, 0, 0), frameOf(200, top+1, 0, 1), frameOf(300, 200, 0, 1)} {
		takesNot(t, r, f, api.ErrLinkFrame)
	}
	has(t, r, 100, 100)
}

// TestK7: no position; more than the receiver has, just that, less than was done; the word behind each.
func TestK7(t *testing.T) {
	r := receiver(t, 100)
	takes(t, r, frameOf(100, 150, 0, 1, "a"), 150, "a")
	takes(t, r, frameOf(150, 200, 0, 1, "b"), 200, "b")
	done := 100
	for _, n := range []int{100, 99, 0, 1, 201, 101, 100, top, 149, 150, 151, 150, 0, 199, 200, 201, 199, 200, 100} {
		for _, no := range noPositions {
			is(t, "Done of no position", r.Done(no), api.ErrArg)
		}
		has(t, r, 200, done)
		want := api.OK
		if n > 200 {
			want = api.ErrLinkOrder
		} else {
			done = max(done, n)
		}
		is(t, "Done", r.Done(n), want)
		has(t, r, 200, done)
	}
	if done != 200 {
		t.Errorf("done is %d", done)
	}
}

// TestK7EachPosition: the word of each position is taken by a sender.
func TestK7EachPosition(t *testing.T) {
	for _, n := range []int{0, 1, 127, 128, 129, 16383, 16384, 1<<21 - 1, 1 << 21, 1<<28 - 1, 1 << 28, top - 1, top} {
		r := receiver(t, n)
		if w := r.Word(); w != wordOf(n) {
			t.Errorf("the word of %d: %q", n, w)
		}
		r = receiver(t, 0)
		if n > 0 {
			takes(t, r, frameOf(0, n, 0, 1), n)
		}
		if w := r.Word(); w != wordOf(0) {
			t.Errorf("the word of nothing: %q", w)
		}
		is(t, "Done", r.Done(n), api.OK)
		has(t, r, n, n)
		confirms(t, sender(t, 0), r.Word(), n)
	}
}

// TestK7Waits: pieces that wait are not had.
func TestK7Waits(t *testing.T) {
	r := receiver(t, 10)
	waits(t, r, frameOf(10, 20, 0, 2, "a"))
	for n := 11; n <= 20; n++ {
		is(t, "Done", r.Done(n), api.ErrLinkOrder)
	}
	has(t, r, 10, 10)
	takes(t, r, frameOf(10, 20, 1, 2, "b"), 20, "a", "b")
	has(t, r, 20, 10)
	is(t, "Done", r.Done(15), api.OK)
	has(t, r, 20, 15)
}
