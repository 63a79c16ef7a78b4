package xact_test

import (
	"testing"

	"confluence/api"
	"confluence/xact"
)

// call is one of those that can be refused and take a number; what it answers beside the error is checked to be 0 or empty with one.
type call struct {
	name string
	do   func(t *testing.T, m *xact.Manager, n int) api.Errno
}

var calls = []call{
	{"Part", func(t *testing.T, m *xact.Manager, n int) api.Errno {
		x, e := m.Part(n)
		if (x != 0) == (e != api.OK) {
			t.Errorf("Part(%d): %d beside %d", n, x, e)
		}
		return e
	}},
	{"Release", func(t *testing.T, m *xact.Manager, n int) api.Errno { return m.Release(n) }},
	{"Back", func(t *testing.T, m *xact.Manager, n int) api.Errno { return m.Back(n) }},
	{"Prepare", func(t *testing.T, m *xact.Manager, n int) api.Errno { return m.Prepare(n) }},
	{"Commit", func(t *testing.T, m *xact.Manager, n int) api.Errno { return m.Commit(n) }},
	{"Abort", func(t *testing.T, m *xact.Manager, n int) api.Errno { return m.Abort(n) }},
	{"Top", func(t *testing.T, m *xact.Manager, n int) api.Errno {
		x, e := m.Top(n)
		if (x != 0) == (e != api.OK) {
			t.Errorf("Top(%d): %d beside %d", n, x, e)
		}
		return e
	}},
	{"Parts", func(t *testing.T, m *xact.Manager, n int) api.Errno {
		l, e := m.Parts(n)
		if len(l) > 0 && e != api.OK {
			t.Errorf("Parts(%d): %v beside %d", n, l, e)
		}
		return e
	}},
}

const (
	fine = api.OK
	none = api.ErrXactNone
	over = api.ErrXactOver
)

// TestX2ToX5Errors: each call on a number of each sort. What is refused has changed nothing.
func TestX2ToX5Errors(t *testing.T) {
	table := []struct {
		what string
		n    int
		want [8]api.Errno // Part, Release, Back, Prepare, Commit, Abort, Top, Parts
	}{
		{"a forgotten transaction", 3, [8]api.Errno{none, none, none, none, none, none, none, none}},
		{"a forgotten part", 4, [8]api.Errno{none, none, none, none, none, none, none, none}},
		{"one that is open", 5, [8]api.Errno{fine, none, none, fine, fine, fine, fine, fine}},
		{"a live part of it", 6, [8]api.Errno{fine, fine, fine, none, none, none, fine, none}},
		{"a live part of that", 7, [8]api.Errno{fine, fine, fine, none, none, none, fine, none}},
		{"a released part", 8, [8]api.Errno{over, over, over, none, none, none, fine, none}},
		{"a part that was taken back", 9, [8]api.Errno{over, over, over, none, none, none, fine, none}},
		{"one that is prepared", 10, [8]api.Errno{over, none, none, over, fine, fine, fine, fine}},
		{"its live part", 11, [8]api.Errno{over, over, over, none, none, none, fine, none}},
		{"its released part", 12, [8]api.Errno{over, over, over, none, none, none, fine, none}},
		{"its part that was taken back", 13, [8]api.Errno{over, over, over, none, none, none, fine, none}},
		{"one that is committed", 14, [8]api.Errno{over, none, none, over, over, over, fine, fine}},
		{"its live part", 15, [8]api.Errno{over, over, over, none, none, none, fine, none}},
		{"its released part", 16, [8]api.Errno{over, over, over, none, none, none, fine, none}},
		{"its part that was taken back", 17, [8]api.Errno{over, over, over, none, none, none, fine, none}},
		{"one that is aborted", 18, [8]api.Errno{over, none, none, over, over, over, fine, fine}},
		{"its live part", 19, [8]api.Errno{over, over, over, none, none, none, fine, none}},
		{"its released part", 20, [8]api.Errno{over, over, over, none, none, none, fine, none}},
		{"its part that was taken back", 21, [8]api.Errno{over, over, over, none, none, none, fine, none}},
		{"the next number", 22, [8]api.Errno{none, none, none, none, none, none, none, none}},
		{"the one behind it", 23, [8]api.Errno{none, none, none, none, none, none, none, none}},
	}
	for _, row := range table {
		for i, c := range calls {
			m := zoo(t)
			was := pictureOf(m, upTo(24)...)
			e := c.do(t, m, row.n)
			is(t, c.name+" of "+row.what, e, row.want[i])
			if e != api.OK || i >= 6 {
				unchanged(t, c.name+" of "+row.what, m, was)
			}
		}
	}
}

func TestX2ToX5Never(t *testing.T) {
	m := zoo(t)
	was := pictureOf(m, upTo(24)...)
	for _, n := range never {
		for _, c := range calls {
			is(t, c.name+" of a number that was never given", c.do(t, m, n), none)
		}
		states(t, "never given", m, n, api.Unknown)
	}
	unchanged(t, "all that was refused", m, was)
}

// TestX3Release: what is within goes with it, what is around or beside it does not.
func TestX3Release(t *testing.T) {
	m := start(t, 1)
	begin(t, m, 1)
	part(t, m, 1, 2) // around
	part(t, m, 2, 3) // released
	part(t, m, 3, 4)
	part(t, m, 4, 5)
	part(t, m, 3, 6)
	part(t, m, 2, 7) // beside it, behind what is within
	part(t, m, 1, 8)
	ok(t, m.Release(3))
	for _, n := range []int{3, 4, 5, 6} {
		x, e := m.Part(n)
		number(t, "Part of what is released", x, e, 0, over)
		is(t, "Release again", m.Release(n), over)
		is(t, "Back of what is released", m.Back(n), over)
	}
	states(t, "behind Release", m, 1, api.Open, api.Open, api.Open, api.Open, api.Open, api.Open, api.Open, api.Open)
	for i, n := range []int{2, 7, 8} {
		part(t, m, n, 9+i)
	}
	ok(t, m.Release(7), m.Release(2), m.Release(8))
	l, _ := m.Parts(1)
	list(t, "Parts", l, 2, 3, 4, 5, 6, 7, 8, 9, 10, 11)
	part(t, m, 1, 12)
}

// TestX3Back: what is within goes with it, released or live, what is around or beside it does not.
func TestX3Back(t *testing.T) {
	m := start(t, 1)
	begin(t, m, 1)
	part(t, m, 1, 2) // around
	part(t, m, 2, 3) // taken back
	part(t, m, 3, 4) // released, with what is within it
	part(t, m, 4, 5)
	part(t, m, 3, 6) // taken back ahead of it
	part(t, m, 6, 7)
	part(t, m, 3, 8) // live
	part(t, m, 8, 9)
	part(t, m, 2, 10) // beside it
	part(t, m, 1, 11)
	ok(t, m.Release(4), m.Back(6), m.Back(3))
	states(t, "behind Back", m, 1, api.Open, api.Open, api.Aborted, api.Aborted, api.Aborted, api.Aborted, api.Aborted, api.Aborted, api.Aborted, api.Open, api.Open)
	for n := 3; n <= 9; n++ {
		x, e := m.Part(n)
		number(t, "Part of what was taken back", x, e, 0, over)
		is(t, "Release of what was taken back", m.Release(n), over)
		is(t, "Back again", m.Back(n), over)
	}
	for i, n := range []int{2, 10, 11} {
		part(t, m, n, 12+i)
	}
	ok(t, m.Release(10), m.Release(2), m.Release(11))
	l, _ := m.Parts(1)
	list(t, "Parts", l, 2, 10, 11, 12, 13, 14)
	ok(t, m.Commit(1))
	states(t, "behind Commit", m, 1, api.Committed, api.Committed, api.Aborted, api.Aborted, api.Aborted, api.Aborted, api.Aborted, api.Aborted, api.Aborted, api.Committed, api.Committed, api.Committed, api.Committed, api.Committed)
}

// TestX3ReleaseLeavesBack: what was taken back within a part is not let in again when that part is released.
func TestX3ReleaseLeavesBack(t *testing.T) {
	m := start(t, 1)
	begin(t, m, 1)
	part(t, m, 1, 2)
	part(t, m, 2, 3)
	part(t, m, 3, 4)
	ok(t, m.Back(3), m.Release(2))
	states(t, "behind Release", m, 1, api.Open, api.Open, api.Aborted, api.Aborted)
	ok(t, m.Commit(1))
	states(t, "behind Commit", m, 1, api.Committed, api.Committed, api.Aborted, api.Aborted)
}

// TestX3Deep: 64 parts in one another, ended at each depth: those from there on have that end, and those around have none.
func TestX3Deep(t *testing.T) {
	for depth := 2; depth <= 65; depth++ {
		m := start(t, 1)
		begin(t, m, 1)
		for i := 1; i <= 64; i++ {
			part(t, m, i, i+1)
		}
		ok(t, m.Release(depth))
		l, _ := m.Parts(1)
		list(t, "Parts behind Release", l, upTo(65)[2:]...)
		for i := 2; i <= 65; i++ {
			_, e := m.Part(i)
			if want := map[bool]api.Errno{true: over, false: api.ErrXactMany}[i >= depth]; e != want {
				t.Errorf("Release(%d): Part(%d) is %d, want %d", depth, i, e, want)
			}
		}
		if depth > 2 {
			ok(t, m.Back(depth-1))
			l, _ = m.Parts(1)
			list(t, "Parts behind Back", l, upTo(depth - 2)[2:]...)
		}
	}
}

// TestX3OtherTransactions: an end of a part is none of one with the same place in another transaction.
func TestX3OtherTransactions(t *testing.T) {
	m := start(t, 1)
	begin(t, m, 1)
	begin(t, m, 2)
	for i := range 5 {
		part(t, m, 1, 3+2*i)
		part(t, m, 2, 4+2*i)
	}
	ok(t, m.Back(7), m.Release(9))
	states(t, "the other one", m, 8, api.Open)
	ok(t, m.Release(8), m.Back(10))
	l, _ := m.Parts(1)
	list(t, "Parts(1)", l, 3, 5, 9, 11)
	l, _ = m.Parts(2)
	list(t, "Parts(2)", l, 4, 6, 8, 12)
}

// TestX4: from each state into each other one that may follow.
func TestX4(t *testing.T) {
	m := start(t, 1)
	for n := 1; n <= 6; n++ {
		begin(t, m, n)
	}
	ok(t, m.Prepare(2), m.Commit(3), m.Abort(4), m.Prepare(5), m.Commit(5), m.Prepare(6), m.Abort(6))
	states(t, "ends", m, 1, api.Open, api.Prepared, api.Committed, api.Aborted, api.Committed, api.Aborted)
	list(t, "Open", m.Open(), 1, 2)
	is(t, "Prepare again", m.Prepare(2), over)
	for _, n := range []int{3, 4, 5, 6} {
		is(t, "Prepare of what is over", m.Prepare(n), over)
		is(t, "Commit of what is over", m.Commit(n), over)
		is(t, "Abort of what is over", m.Abort(n), over)
	}
	states(t, "behind what was refused", m, 1, api.Open, api.Prepared, api.Committed, api.Aborted, api.Committed, api.Aborted)
}

// TestX4Parts: parts share the end of their transaction, the live and the released ones; of what is prepared too.
func TestX4Parts(t *testing.T) {
	for _, c := range []struct {
		want int
		end  func(m *xact.Manager) api.Errno
	}{
		{api.Open, func(m *xact.Manager) api.Errno { return api.OK }},
		{api.Prepared, func(m *xact.Manager) api.Errno { return m.Prepare(1) }},
		{api.Committed, func(m *xact.Manager) api.Errno { return m.Commit(1) }},
		{api.Aborted, func(m *xact.Manager) api.Errno { return m.Abort(1) }},
	} {
		m := start(t, 1)
		begin(t, m, 1)
		begin(t, m, 2)
		part(t, m, 1, 3) // live
		part(t, m, 3, 4) // live within it
		part(t, m, 1, 5) // released
		part(t, m, 1, 6) // taken back
		part(t, m, 2, 7) // of another one
		ok(t, m.Release(5), m.Back(6), c.end(m))
		states(t, "parts", m, 1, c.want, api.Open, c.want, c.want, c.want, api.Aborted, api.Open)
		l, e := m.Parts(1)
		is(t, "Parts", e, api.OK)
		if c.want == api.Aborted {
			list(t, "Parts of what is aborted", l)
		} else {
			list(t, "Parts", l, 3, 4, 5)
		}
	}
}
