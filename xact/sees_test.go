package xact_test

import (
	"math"
	"testing"

	"confluence/api"
)

// TestX7Own: of one transaction: all that is not aborted, whatever the snapshot says.
func TestX7Own(t *testing.T) {
	m := zoo(t)
	families := [][]int{{5, 6, 7, 8, 9}, {10, 11, 12, 13}, {14, 15, 16, 17}, {18, 19, 20, 21}}
	for _, s := range []api.Snapshot{{}, {Min: 100, Max: 100}, {Open: []int{5, 10, 14, 18}}, {Min: math.MinInt, Max: math.MinInt}, {Min: math.MaxInt, Max: math.MaxInt, Open: upTo(30)}, m.Snapshot()} {
		for i, l := range families {
			for _, own := range l {
				for _, xid := range l {
					want := i < 3 && xid != l[len(l)-1]
					if got := m.Sees(s, own, xid); got != want {
						t.Errorf("Sees(%v, %d, %d) = %v", s, own, xid, got)
					}
				}
			}
		}
	}
}

// TestX7Others: of another transaction, or of somebody who has none: just what is committed, below Max, and not in Open.
func TestX7Others(t *testing.T) {
	m := zoo(t)
	owns := []int{5, 6, 8, 9, 10, 11, 13, 18, 21, 0, -1, 3, 4, 22, 99, math.MinInt, math.MaxInt}
	for _, c := range []struct {
		s    api.Snapshot
		want bool // of 14 and what it did not take back
	}{
		{api.Snapshot{Min: 22, Max: 22}, true},
		{api.Snapshot{Max: 15}, true}, // Min says nothing of what is known
		{api.Snapshot{Min: 15, Max: 15}, true},
		{api.Snapshot{Min: 14, Max: 15, Open: []int{}}, true},
		{api.Snapshot{Min: math.MinInt, Max: math.MaxInt}, true},
		{api.Snapshot{Min: math.MaxInt, Max: 15}, true},
		{api.Snapshot{Min: 99, Max: 14}, false}, // below Max, by the transaction's own number
		{api.Snapshot{Min: 99, Max: 13}, false},
		{api.Snapshot{}, false},
		{api.Snapshot{Min: 99, Max: -1}, false},
		{api.Snapshot{Min: 99, Max: math.MinInt}, false},
		{api.Snapshot{Max: 22, Open: []int{14}}, false},
		{api.Snapshot{Max: 22, Open: []int{5, 10, 14, 18}}, false},
		{api.Snapshot{Max: 22, Open: []int{18, 14, 10}}, false}, // Open may stand in any order
		{api.Snapshot{Max: 22, Open: []int{99, 14, -3, 14, 0}}, false},
		{api.Snapshot{Max: 22, Open: []int{5, 10, 13, 15, 16, 18}}, true}, // parts in Open say nothing
		{api.Snapshot{Max: 22, Open: []int{15, 16, 17}}, true},
		{api.Snapshot{Max: 22, Open: []int{-14, 1<<32 + 14, math.MaxInt, math.MinInt}}, true},
	} {
		for _, own := range owns {
			for xid := 14; xid <= 16; xid++ {
				if got := m.Sees(c.s, own, xid); got != c.want {
					t.Errorf("Sees(%v, %d, %d) = %v", c.s, own, xid, got)
				}
			}
			for xid := 5; xid <= 21; xid++ {
				top, _ := m.Top(xid)
				if of, _ := m.Top(own); of != top && (xid < 14 || xid > 16) && m.Sees(c.s, own, xid) {
					t.Errorf("Sees(%v, %d, %d), which is not committed", c.s, own, xid)
				}
			}
		}
	}
}

// TestX7Unknown: what is not known is seen, if it can be a number at all, just below Min; own says nothing, not even where it is the same.
func TestX7Unknown(t *testing.T) {
	m := zoo(t)
	for _, xid := range append([]int{3, 4, 22, 23, 24, 100}, never...) {
		for _, own := range []int{xid, 0, 5, 6, 14, 3, 22, -1, math.MinInt, math.MaxInt} {
			for _, min := range []int{0, 1, 2, 3, 4, 5, 22, 23, 24, 99, last, last + 1, math.MaxInt - 1, math.MaxInt, -1, -2, math.MinInt} {
				for _, s := range []api.Snapshot{{Min: min}, {Min: min, Max: math.MaxInt}, {Min: min, Max: math.MinInt}, {Min: min, Open: []int{xid, own, min}}} {
					if got, want := m.Sees(s, own, xid), xid >= 1 && xid < min; got != want {
						t.Errorf("Sees(%v, %d, %d) = %v", s, own, xid, got)
					}
				}
			}
		}
	}
}

// TestX7AsItIsNow: it is asked of the states as they are, with one snapshot.
func TestX7AsItIsNow(t *testing.T) {
	m := start(t, 1)
	begin(t, m, 1)
	part(t, m, 1, 2)
	part(t, m, 1, 3)
	begin(t, m, 4)
	s := api.Snapshot{Min: 1, Max: 5} // nothing is in Open
	sees := func(what string, own int, want ...bool) {
		t.Helper()
		for i, w := range want {
			if got := m.Sees(s, own, i+1); got != w {
				t.Errorf("%s: Sees(s, %d, %d) = %v", what, own, i+1, got)
			}
		}
	}
	sees("open", 1, true, true, true, false)
	sees("open", 4, false, false, false, true)
	ok(t, m.Back(2))
	sees("a part is taken back", 3, true, false, true, false)
	ok(t, m.Prepare(1))
	sees("prepared", 1, true, false, true, false)
	sees("prepared", 4, false, false, false, true)
	ok(t, m.Commit(1))
	sees("committed", 2, true, false, true, false)
	sees("committed", 4, true, false, true, true)
	sees("committed", 0, true, false, true, false)
	ok(t, m.Abort(4))
	sees("aborted", 4, true, false, true, false)
	m.Forget(5)
	sees("forgotten", 4, false, false, false, false)
	s.Min = 4
	sees("forgotten, below Min", 4, true, true, true, false)
}
