package xact_test

import (
	"math"
	"testing"

	"confluence/api"
	"confluence/xact"
)

// TestX1New: which first numbers there may be; a new manager knows nothing.
func TestX1New(t *testing.T) {
	for _, n := range []int{1, 2, 3, 64, 1 << 16, 1<<31 - 2, last, last + 1} {
		m := start(t, n)
		if m.Next() != n {
			t.Errorf("New(%d): Next = %d", n, m.Next())
		}
		list(t, "Open of a new one", m.Open())
		snapshot(t, "Snapshot of a new one", m.Snapshot(), n, n)
		if k := m.Forget(math.MaxInt); k != 0 {
			t.Errorf("New(%d) has %d numbers to forget", n, k)
		}
		for _, x := range append(upTo(70), n-1, n, n+1, -1, math.MinInt, math.MaxInt) {
			if s := m.State(x); s != api.Unknown {
				t.Errorf("New(%d): State(%d) = %d", n, x, s)
			}
		}
	}
	for _, n := range []int{0, -1, -2, last + 2, last + 3, 1 << 32, 1<<32 + 1, 1 << 62, math.MinInt, math.MinInt + 1, math.MaxInt} {
		if m, e := xact.New(n); m != nil || e != api.ErrArg {
			t.Errorf("New(%d): %v, %d, want nil and ErrArg", n, m, e)
		}
	}
}

// TestX1Next: it tells the number that is given then, and giving is all that moves it.
func TestX1Next(t *testing.T) {
	m := start(t, 7)
	for i := 7; i < 20; i += 2 {
		begin(t, m, i)
		if m.Next() != i+1 {
			t.Fatalf("Next = %d behind Begin: %d", m.Next(), i)
		}
		part(t, m, i, i+1)
		if m.Next() != i+2 {
			t.Fatalf("Next = %d behind Part: %d", m.Next(), i+1)
		}
	}
	ok(t, m.Release(8), m.Back(10), m.Prepare(7), m.Commit(7), m.Abort(9))
	m.Snapshot()
	m.Part(99)
	m.Forget(11)
	if m.Next() != 21 {
		t.Errorf("Next = %d, want 21", m.Next())
	}
}

func TestX2Begin(t *testing.T) {
	m := start(t, 1)
	for i := 1; i <= 100; i++ {
		begin(t, m, i)
		states(t, "behind Begin", m, i, api.Open, api.Unknown)
		top, e := m.Top(i)
		number(t, "Top", top, e, i, api.OK)
	}
	list(t, "Open", m.Open(), upTo(100)[1:]...)
}

// TestX2Part: parts of a transaction and of parts, in among other transactions; each belongs to its transaction and stands as that does.
func TestX2Part(t *testing.T) {
	m := start(t, 1)
	begin(t, m, 1)
	begin(t, m, 2)
	part(t, m, 2, 3)
	part(t, m, 1, 4)
	part(t, m, 4, 5)
	part(t, m, 3, 6)
	part(t, m, 5, 7)
	part(t, m, 2, 8)
	for i, want := range []int{1, 2, 2, 1, 1, 2, 1, 2} {
		top, e := m.Top(i + 1)
		number(t, "Top", top, e, want, api.OK)
	}
	states(t, "parts", m, 1, api.Open, api.Open, api.Open, api.Open, api.Open, api.Open, api.Open, api.Open, api.Unknown)
	l, e := m.Parts(1)
	is(t, "Parts(1)", e, api.OK)
	list(t, "Parts(1)", l, 4, 5, 7)
	l, e = m.Parts(2)
	is(t, "Parts(2)", e, api.OK)
	list(t, "Parts(2)", l, 3, 6, 8)
	list(t, "Open", m.Open(), 1, 2)
}

// TestX2Last: the last number is given, to either, and then none.
func TestX2Last(t *testing.T) {
	m := start(t, last)
	begin(t, m, last)
	none := func(m *xact.Manager, parents ...int) {
		t.Helper()
		was := pictureOf(m, last-1, last, last+1)
		for range 3 {
			n, e := m.Begin()
			number(t, "Begin without a number", n, e, 0, api.ErrXactLast)
			for _, p := range parents {
				n, e = m.Part(p)
				number(t, "Part without a number", n, e, 0, api.ErrXactLast)
			}
		}
		unchanged(t, "what is refused", m, was)
		if m.Next() != last+1 {
			t.Errorf("Next = %d", m.Next())
		}
	}
	none(m, last)
	m = start(t, last-1)
	begin(t, m, last-1)
	part(t, m, last-1, last)
	none(m, last-1, last)
	states(t, "the last ones", m, last-2, api.Unknown, api.Open, api.Open, api.Unknown)
	ok(t, m.Release(last), m.Commit(last-1))
	if n := m.Forget(last + 1); n != 2 {
		t.Errorf("Forget: %d", n)
	}
	none(m)
	none(start(t, last+1))
}

// TestX2Many: a transaction has had 64 parts, whatever became of them; those of others do not count.
func TestX2Many(t *testing.T) {
	ways := []func(m *xact.Manager, n int){
		func(m *xact.Manager, n int) {},
		func(m *xact.Manager, n int) { ok(t, m.Release(n)) },
		func(m *xact.Manager, n int) { ok(t, m.Back(n)) },
		func(m *xact.Manager, n int) { // some of each
			if n%3 == 0 {
				ok(t, m.Release(n))
			} else if n%3 == 1 {
				ok(t, m.Back(n))
			}
		},
	}
	for _, end := range ways {
		m := start(t, 1)
		begin(t, m, 1)
		begin(t, m, 2)
		for i := range 64 {
			part(t, m, 1, 3+i)
			end(m, 3+i)
		}
		was := pictureOf(m, upTo(70)...)
		n, e := m.Part(1)
		number(t, "a 65th part", n, e, 0, api.ErrXactMany)
		unchanged(t, "a 65th part", m, was)
		part(t, m, 2, 67)
		begin(t, m, 68)
		part(t, m, 68, 69)
		n, e = m.Part(1)
		number(t, "a 65th part again", n, e, 0, api.ErrXactMany)
	}
}

// TestX2Deep: 64 parts within one another.
func TestX2Deep(t *testing.T) {
	m := start(t, 1)
	begin(t, m, 1)
	for i := 1; i <= 64; i++ {
		part(t, m, i, i+1)
	}
	for _, p := range []int{1, 2, 33, 64, 65} {
		n, e := m.Part(p)
		number(t, "a 65th part", n, e, 0, api.ErrXactMany)
	}
	l, e := m.Parts(1)
	is(t, "Parts", e, api.OK)
	list(t, "Parts", l, upTo(65)[2:]...)
	top, e := m.Top(65)
	number(t, "Top(65)", top, e, 1, api.OK)
}

// TestX2Order: several errors apply; the one that is named first comes.
func TestX2Order(t *testing.T) {
	m := start(t, last-65)
	top := last - 65
	begin(t, m, top)
	for i := 1; i <= 64; i++ {
		part(t, m, top, top+i)
	}
	ok(t, m.Release(top+1), m.Back(top+2))
	n, e := m.Part(top)
	number(t, "a 65th part, one number left", n, e, 0, api.ErrXactMany)
	begin(t, m, last)
	for _, p := range []int{top, top + 3, top + 64} {
		n, e = m.Part(p)
		number(t, "a 65th part, no number left", n, e, 0, api.ErrXactMany)
	}
	n, e = m.Part(last)
	number(t, "a first part, no number left", n, e, 0, api.ErrXactLast)
	for _, p := range []int{top + 1, top + 2} {
		n, e = m.Part(p)
		number(t, "a 65th part in one that is not live", n, e, 0, api.ErrXactOver)
	}
	for _, p := range []int{top - 1, 0, 1, -1, last + 1, last + 2, math.MinInt, math.MaxInt} {
		n, e = m.Part(p)
		number(t, "a part in what is not known, no number left", n, e, 0, api.ErrXactNone)
	}
	for _, end := range []func(int) api.Errno{m.Prepare, m.Commit} {
		ok(t, end(top), end(last))
		for _, p := range []int{top, top + 1, top + 2, top + 3, last} {
			n, e = m.Part(p)
			number(t, "a part in what is not open, no number left", n, e, 0, api.ErrXactOver)
		}
	}
}
