package merge_test

import (
	"slices"
	"testing"

	"confluence/api"
	"confluence/merge"
)

// TestG2Asked: how often each row was asked behind each call.
func TestG2Asked(t *testing.T) {
	l := []*source{at(1, 1, 4, 4), at(2, 2, 4, 9), at(3), at(4, 3)}
	m := merge.New()
	for n, s := range l {
		m.Add(s.next)
		asks(t, "Add", l, [][]int{{1, 0, 0, 0}, {1, 1, 0, 0}, {1, 1, 1, 0}, {1, 1, 1, 1}}[n]...)
		holds(t, m, []int{1, 2, 2, 3}[n])
	}
	for _, step := range []struct {
		want  api.Change
		held  int
		asked []int
	}{
		{change(1, 1, 1), 3, []int{2, 1, 1, 1}},
		{change(2, 2, 1), 3, []int{2, 2, 1, 1}},
		{change(3, 4, 1), 2, []int{2, 2, 1, 2}},
		{change(4, 1, 2), 2, []int{3, 2, 1, 2}},
		{change(4, 1, 3), 1, []int{4, 2, 1, 2}},
		{change(4, 2, 2), 1, []int{4, 3, 1, 2}},
		{change(9, 2, 3), 0, []int{4, 4, 1, 2}},
	} {
		tells(t, m, step.want)
		holds(t, m, step.held)
		asks(t, "Next", l, step.asked...)
	}
	ends(t, m)
	asks(t, "at the end", l, 4, 4, 1, 2)
}

// TestG2WhoIsAsked: Add asks the row that is added, Next the row of what it tells, nothing else anybody.
func TestG2WhoIsAsked(t *testing.T) {
	var order []int
	m := merge.New()
	add := func(row int, lsns ...int) {
		s := at(row, lsns...)
		m.Add(func() (api.Change, bool) {
			order = append(order, row)
			return s.next()
		})
	}
	was := func(want ...int) {
		t.Helper()
		m.Held()
		if !slices.Equal(order, want) {
			t.Fatalf("asked were %v, want %v", order, want)
		}
		order = nil
	}
	add(1, 5, 6)
	was(1)
	add(2, 4)
	was(2)
	tells(t, m, change(4, 2, 1))
	was(2)
	tells(t, m, change(5, 1, 1))
	was(1)
	add(3, 6)
	was(3)
	m.Add(nil)
	was()
	tells(t, m, change(6, 1, 2))
	was(1)
	tells(t, m, change(6, 3, 1))
	was(3)
	ends(t, m)
	was()
}

// TestG2NotAhead: behind each call each row was asked as often as its changes were taken, and once more.
func TestG2NotAhead(t *testing.T) {
	var l []*source
	taken := make([]int, 40)
	m := merge.New()
	check := func() {
		t.Helper()
		for i, s := range l {
			if s.asked != taken[i]+1 || s.ended > 1 {
				t.Fatalf("row %d: %d were taken, it was asked %d times", i+1, taken[i], s.asked)
			}
		}
	}
	for row := range 40 {
		var lsns []int
		for n := range row % 7 {
			lsns = append(lsns, (row*n*13+n)%17)
		}
		l = append(l, at(row+1, lsns...))
		m.Add(l[row].next)
		check()
		if row%3 == 2 {
			if c, is := m.Next(); is {
				taken[c.Xid-1]++
			}
			check()
		}
	}
	for c, is := m.Next(); is; c, is = m.Next() {
		taken[c.Xid-1]++
		check()
	}
	for i := range l {
		if taken[i] != i%7 {
			t.Errorf("of row %d %d were taken", i+1, taken[i])
		}
	}
	ends(t, m)
	check()
}

// TestG2EndlessRows: rows that never say false are asked no more than they must be.
func TestG2EndlessRows(t *testing.T) {
	m := merge.New()
	asked := make([]int, 3)
	for row := range asked {
		m.Add(func() (api.Change, bool) {
			asked[row]++
			return change(asked[row]*3+row, row, asked[row]), true
		})
	}
	for n := range 300 {
		tells(t, m, change(3+n, n%3, n/3+1))
		holds(t, m, 3)
		if asked[0]+asked[1]+asked[2] != n+4 {
			t.Fatalf("asked %v behind %d", asked, n+1)
		}
	}
}

// TestG2AddedBetween: rows that come between the Nexts, below, at and above what was told.
func TestG2AddedBetween(t *testing.T) {
	m := merged(at(1, 5, 8))
	tells(t, m, change(5, 1, 1))
	m.Add(at(2, 3, 8).next)
	holds(t, m, 2)
	tells(t, m, change(3, 2, 1))
	m.Add(at(3, 8).next)
	m.Add(at(4, 7, 7).next)
	holds(t, m, 4)
	tells(t, m, change(7, 4, 1))
	m.Add(at(5, 7).next)
	tells(t, m, change(7, 4, 2), change(7, 5, 1), change(8, 1, 2), change(8, 2, 2))
	m.Add(at(6, 8).next)
	tells(t, m, change(8, 3, 1), change(8, 6, 1))
	ends(t, m)
}

// TestG2AddedBehindTheEnd: a Next that said false ends nothing.
func TestG2AddedBehindTheEnd(t *testing.T) {
	m := merge.New()
	for n := range 20 {
		ends(t, m)
		a, b := at(1, 9, 2), at(2, n, n)
		m.Add(a.next)
		holds(t, m, 1)
		m.Add(b.next)
		holds(t, m, 2)
		asks(t, "Add", []*source{a, b}, 1, 1)
		if n < 9 {
			tells(t, m, change(n, 2, 1), change(n, 2, 2), change(9, 1, 1), change(2, 1, 2))
		} else {
			tells(t, m, change(9, 1, 1), change(2, 1, 2), change(n, 2, 1), change(n, 2, 2))
		}
		asks(t, "at the end", []*source{a, b}, 3, 3)
	}
	ends(t, m)
}

// TestG2FalseIsTheLast: a row that could tell more behind its false is not asked for it.
func TestG2FalseIsTheLast(t *testing.T) {
	asked := 0
	m := merge.New()
	m.Add(func() (api.Change, bool) {
		asked++
		return change(asked, 1, asked), asked != 3
	})
	tells(t, m, change(1, 1, 1))
	holds(t, m, 1)
	tells(t, m, change(2, 1, 2))
	holds(t, m, 0)
	m.Add(at(2, 1).next)
	tells(t, m, change(1, 2, 1))
	ends(t, m)
	if asked != 3 {
		t.Errorf("asked %d times, want 3", asked)
	}
}

// TestG2OneFunctionTwice: each Add of a function is a row, which is asked for itself.
func TestG2OneFunctionTwice(t *testing.T) {
	s := at(1, 5, 4, 3, 6)
	m := merge.New()
	m.Add(s.next)
	m.Add(s.next)
	holds(t, m, 2)
	tells(t, m, change(4, 1, 2), change(3, 1, 3), change(5, 1, 1), change(6, 1, 4))
	ends(t, m)
	// It has said false to each of the two rows.
	if s.asked != 6 || s.ended != 2 {
		t.Errorf("asked %d times, %d of them at its end", s.asked, s.ended)
	}
}
