package xact_test

import (
	"math"
	"reflect"
	"slices"
	"testing"

	"confluence/api"
	"confluence/xact"
)

const last = 2147483647 // the greatest number

// never are numbers that no manager of these tests gives; some of them are given ones by their lower bits.
var never = []int{0, 1, 2, -1, -2, -5, math.MinInt, math.MaxInt, last - 1, last, last + 1, 1<<32 + 5, 1<<32 + 6, 1<<62 + 10, math.MinInt + 14}

// start is a manager of what must be right.
func start(t *testing.T, next int) *xact.Manager {
	t.Helper()
	m, e := xact.New(next)
	if m == nil || e != api.OK {
		t.Fatalf("New(%d): %d", next, e)
	}
	return m
}

func is(t *testing.T, what string, got, want api.Errno) {
	t.Helper()
	if got != want {
		t.Errorf("%s: %d, want %d", what, got, want)
	}
}

func number(t *testing.T, what string, got int, e api.Errno, want int, f api.Errno) {
	t.Helper()
	if got != want || e != f {
		t.Errorf("%s: %d, %d, want %d, %d", what, got, e, want, f)
	}
}

func list(t *testing.T, what string, got []int, want ...int) {
	t.Helper()
	if !slices.Equal(got, want) {
		t.Errorf("%s: %v, want %v", what, got, want)
	}
}

// begin begins a transaction that must have that number.
func begin(t *testing.T, m *xact.Manager, want int) {
	t.Helper()
	n, e := m.Begin()
	number(t, "Begin", n, e, want, api.OK)
}

// part begins a part that must have that number.
func part(t *testing.T, m *xact.Manager, parent, want int) {
	t.Helper()
	n, e := m.Part(parent)
	number(t, "Part", n, e, want, api.OK)
}

// ok is for calls that only have to go well.
func ok(t *testing.T, l ...api.Errno) {
	t.Helper()
	for i, e := range l {
		if e != api.OK {
			t.Errorf("call %d: %d", i, e)
		}
	}
}

// states holds the states of some numbers, from one on, against what they should be.
func states(t *testing.T, what string, m *xact.Manager, from int, want ...int) {
	t.Helper()
	for i, w := range want {
		if s := m.State(from + i); s != w {
			t.Errorf("%s: State(%d) = %d, want %d", what, from+i, s, w)
		}
	}
}

// snapshot holds one against what it should be.
func snapshot(t *testing.T, what string, got api.Snapshot, min, max int, open ...int) {
	t.Helper()
	if got.Min != min || got.Max != max || !slices.Equal(got.Open, open) {
		t.Errorf("%s: %+v, want %d, %d, %v", what, got, min, max, open)
	}
}

// picture is all that a manager tells of some numbers, what may still be done with them left aside.
type picture struct {
	Next                      int
	Open, Of, States, Tops    []int
	Parts                     [][]int
	TopErrors, PartsErrors    []api.Errno
	Snapshot                  api.Snapshot
	SeenNow, SeenNever, ByOwn []bool
}

func pictureOf(m *xact.Manager, of ...int) picture {
	p := picture{Next: m.Next(), Open: full(m.Open()), Of: of, Snapshot: m.Snapshot()}
	p.Snapshot.Open = full(p.Snapshot.Open)
	for _, n := range of {
		top, e := m.Top(n)
		parts, f := m.Parts(n)
		p.States, p.Tops, p.Parts = append(p.States, m.State(n)), append(p.Tops, top), append(p.Parts, full(parts))
		p.TopErrors, p.PartsErrors = append(p.TopErrors, e), append(p.PartsErrors, f)
		p.SeenNow = append(p.SeenNow, m.Sees(p.Snapshot, 0, n))
		p.SeenNever = append(p.SeenNever, m.Sees(api.Snapshot{}, 0, n))
		p.ByOwn = append(p.ByOwn, m.Sees(api.Snapshot{}, n, n))
	}
	return p
}

// full is the same list, never nil: a list without elements may be either.
func full(l []int) []int { return append([]int{}, l...) }

// unchanged holds what a manager tells now against what it told.
func unchanged(t *testing.T, what string, m *xact.Manager, was picture) {
	t.Helper()
	if now := pictureOf(m, was.Of...); !reflect.DeepEqual(now, was) {
		t.Errorf("%s has changed what is told:\n%+v\nnow\n%+v", what, was, now)
	}
}

// upTo are the numbers 0 to n.
func upTo(n int) []int {
	var l []int
	for i := range n + 1 {
		l = append(l, i)
	}
	return l
}

// zoo is a manager with a number of each sort. 3 and its part 4 are forgotten. Then four transactions, each with a part that was live when it ended, one that was released and one that was taken back: 5 is open (and 7 stands within its live part 6), 10 prepared, 14 committed, 18 aborted. The next number is 22.
func zoo(t *testing.T) *xact.Manager {
	t.Helper()
	m := start(t, 3)
	begin(t, m, 3)
	part(t, m, 3, 4)
	ok(t, m.Commit(3))
	if n := m.Forget(5); n != 2 {
		t.Fatalf("Forget(5): %d", n)
	}
	begin(t, m, 5)
	part(t, m, 5, 6)
	part(t, m, 6, 7)
	part(t, m, 5, 8)
	part(t, m, 5, 9)
	ok(t, m.Release(8), m.Back(9))
	for _, n := range []int{10, 14, 18} {
		begin(t, m, n)
		part(t, m, n, n+1)
		part(t, m, n, n+2)
		part(t, m, n, n+3)
		ok(t, m.Release(n+2), m.Back(n+3))
	}
	ok(t, m.Prepare(10), m.Commit(14), m.Abort(18))
	return m
}
