package xact_test

import (
	"slices"
	"testing"

	"confluence/api"
)

// TestX5State: a number of each sort.
func TestX5State(t *testing.T) {
	m := zoo(t)
	for i, want := range []int{
		api.Unknown, api.Unknown, api.Unknown, api.Unknown, api.Unknown, // 0 to 4
		api.Open, api.Open, api.Open, api.Open, api.Aborted,
		api.Prepared, api.Prepared, api.Prepared, api.Aborted,
		api.Committed, api.Committed, api.Committed, api.Aborted,
		api.Aborted, api.Aborted, api.Aborted, api.Aborted,
		api.Unknown, api.Unknown,
	} {
		states(t, "State", m, i, want)
	}
	for _, n := range never {
		states(t, "of a number that was never given", m, n, api.Unknown)
	}
}

func TestX5Top(t *testing.T) {
	m := zoo(t)
	for n := 5; n < 22; n++ {
		want := []int{5, 10, 14, 18}[map[bool]int{true: 0, false: (n - 6) / 4}[n < 10]]
		top, e := m.Top(n)
		number(t, "Top", top, e, want, api.OK)
	}
	for _, n := range append([]int{3, 4, 22, 23}, never...) {
		top, e := m.Top(n)
		number(t, "Top of what is not known", top, e, 0, api.ErrXactNone)
	}
}

func TestX5Parts(t *testing.T) {
	m := zoo(t)
	for n, want := range map[int][]int{5: {6, 7, 8}, 10: {11, 12}, 14: {15, 16}, 18: nil} {
		l, e := m.Parts(n)
		is(t, "Parts", e, api.OK)
		list(t, "Parts", l, want...)
	}
	begin(t, m, 22)
	l, e := m.Parts(22)
	is(t, "Parts of one without", e, api.OK)
	list(t, "Parts of one without", l)
	for n := range 23 {
		if _, e := m.Parts(n); (e == api.OK) != slices.Contains([]int{5, 10, 14, 18, 22}, n) || e != api.OK && e != api.ErrXactNone {
			t.Errorf("Parts(%d): %d", n, e)
		}
	}
}

// TestX5Open: rising, whatever ends in whatever order, with those that are prepared and without parts.
func TestX5Open(t *testing.T) {
	m := start(t, 1)
	list(t, "Open of a new one", m.Open())
	for n := 1; n <= 9; n += 2 {
		begin(t, m, n)
		part(t, m, n, n+1)
	}
	list(t, "Open", m.Open(), 1, 3, 5, 7, 9)
	ok(t, m.Prepare(3), m.Prepare(9))
	list(t, "prepared ones too", m.Open(), 1, 3, 5, 7, 9)
	ok(t, m.Commit(5))
	list(t, "without the middle", m.Open(), 1, 3, 7, 9)
	ok(t, m.Abort(9))
	list(t, "without the last", m.Open(), 1, 3, 7)
	ok(t, m.Commit(1))
	list(t, "without the first", m.Open(), 3, 7)
	begin(t, m, 11)
	list(t, "with a new one", m.Open(), 3, 7, 11)
	ok(t, m.Commit(3), m.Abort(7), m.Abort(11))
	list(t, "when all are over", m.Open())
	begin(t, m, 12)
	list(t, "with one again", m.Open(), 12)
}

func TestX6(t *testing.T) {
	m := start(t, 5)
	snapshot(t, "of a new one", m.Snapshot(), 5, 5)
	begin(t, m, 5)
	snapshot(t, "of one", m.Snapshot(), 5, 6, 5)
	part(t, m, 5, 6)
	begin(t, m, 7)
	begin(t, m, 8)
	snapshot(t, "of three and a part", m.Snapshot(), 5, 9, 5, 7, 8)
	ok(t, m.Prepare(7), m.Commit(5))
	snapshot(t, "a prepared one is the least", m.Snapshot(), 7, 9, 7, 8)
	ok(t, m.Abort(8))
	snapshot(t, "of one that is prepared", m.Snapshot(), 7, 9, 7)
	ok(t, m.Commit(7))
	snapshot(t, "when all are over", m.Snapshot(), 9, 9)
	m.Forget(9)
	snapshot(t, "when all are forgotten", m.Snapshot(), 9, 9)
	begin(t, m, 9)
	snapshot(t, "of one again", m.Snapshot(), 9, 10, 9)
	m = start(t, last)
	begin(t, m, last)
	snapshot(t, "of the last", m.Snapshot(), last, last+1, last)
	ok(t, m.Commit(last))
	snapshot(t, "without numbers", m.Snapshot(), last+1, last+1)
}
