package xact_test

import (
	"math"
	"testing"

	"confluence/api"
	"confluence/xact"
)

func forgets(t *testing.T, m *xact.Manager, below, want int) {
	t.Helper()
	if n := m.Forget(below); n != want {
		t.Errorf("Forget(%d): %d, want %d", below, n, want)
	}
}

// TestX8Bound: a transaction without parts, and one whose last part stands behind another transaction, at each bound.
func TestX8Bound(t *testing.T) {
	for below := 0; below <= 8; below++ {
		m := start(t, 1)
		begin(t, m, 1) // with the parts 2 and 5
		part(t, m, 1, 2)
		begin(t, m, 3)
		begin(t, m, 4) // with the part 6, which is taken back
		part(t, m, 1, 5)
		part(t, m, 4, 6)
		ok(t, m.Back(6), m.Commit(1), m.Abort(3), m.Commit(4))
		gone, want := map[int]bool{}, 0
		for _, l := range [][]int{{1, 2, 5}, {3}, {4, 6}} {
			if l[len(l)-1] >= below {
				continue
			}
			want += len(l)
			for _, n := range l {
				gone[n] = true
			}
		}
		forgets(t, m, below, want)
		for n := 1; n <= 6; n++ {
			if (m.State(n) == api.Unknown) != gone[n] {
				t.Errorf("behind Forget(%d): State(%d) = %d", below, n, m.State(n))
			}
		}
		forgets(t, m, below, 0)
		forgets(t, m, 7, 6-want)
		forgets(t, m, math.MaxInt, 0)
	}
}

// TestX8States: only what is over is forgotten, whatever the bound.
func TestX8States(t *testing.T) {
	m := zoo(t)
	was := pictureOf(m, upTo(13)...)
	for _, below := range []int{math.MinInt, -1, 0, 1, 3, 5, 14, 15, 17} {
		forgets(t, m, below, 0)
	}
	unchanged(t, "Forget of nothing", m, was)
	forgets(t, m, 21, 4)
	states(t, "behind Forget(21)", m, 14, api.Unknown, api.Unknown, api.Unknown, api.Unknown, api.Aborted, api.Aborted, api.Aborted, api.Aborted)
	forgets(t, m, math.MaxInt, 4)
	for n := 14; n <= 21; n++ {
		states(t, "behind Forget of all", m, n, api.Unknown)
		for _, c := range calls {
			is(t, c.name+" of what is forgotten", c.do(t, m, n), none)
		}
	}
	unchanged(t, "Forget of the others", m, was)
	ok(t, m.Release(7), m.Commit(5), m.Abort(10))
	forgets(t, m, 9, 0)
	forgets(t, m, 10, 5)
	forgets(t, m, 13, 0)
	forgets(t, m, 14, 4)
	begin(t, m, 22) // numbers are not given again
	list(t, "Open", m.Open(), 22)
}

// TestX8All: the parts of one are forgotten with it, 64 of them, at the last numbers.
func TestX8All(t *testing.T) {
	m := start(t, last-64)
	begin(t, m, last-64)
	for i := range 64 {
		part(t, m, last-64, last-63+i)
	}
	forgets(t, m, math.MaxInt, 0)
	ok(t, m.Prepare(last-64))
	forgets(t, m, math.MaxInt, 0)
	ok(t, m.Abort(last-64))
	forgets(t, m, last-64, 0)
	forgets(t, m, last-63, 0)
	forgets(t, m, last, 0)
	forgets(t, m, last+1, 65)
	forgets(t, m, last+1, 0)
	if n, e := m.Begin(); n != 0 || e != api.ErrXactLast {
		t.Errorf("Begin: %d, %d", n, e)
	}
}
