package merge_test

import (
	"fmt"
	"slices"
	"testing"

	"confluence/api"
	"confluence/merge"
)

func number(n int) api.Value  { return api.Value{Kind: api.Int, N: n} }
func text(s string) api.Value { return api.Value{Kind: api.Text, S: s} }

// change is the n-th one of a row; what its rows say hangs on all three numbers, so that no two are the same.
func change(lsn, row, n int) api.Change {
	return api.Change{
		Lsn: lsn, Xid: row, Kind: api.RecInsert + n%3, Table: n,
		Old: api.Row{number(lsn), text(fmt.Sprint("old ", row, " ", n))},
		New: api.Row{{}, number(row), text(fmt.Sprint("new ", lsn, " ", n))},
	}
}

// changes are those of a row at these positions.
func changes(row int, lsns ...int) []api.Change {
	var l []api.Change
	for n, lsn := range lsns {
		l = append(l, change(lsn, row, n+1))
	}
	return l
}

// same holds all of two changes against one another; a row without values may be nil or not.
func same(a, b api.Change) bool {
	return a.Lsn == b.Lsn && a.Xid == b.Xid && a.Kind == b.Kind && a.Table == b.Table && slices.Equal(a.Old, b.Old) && slices.Equal(a.New, b.New)
}

func sameLists(a, b []api.Change) bool { return slices.EqualFunc(a, b, same) }

// source is a row that counts how often it is asked, also behind its false.
type source struct {
	left  []api.Change
	asked int
	ended int // how often it has said false
}

// of is a source of these changes, which are its own.
func of(l ...api.Change) *source { return &source{left: slices.Clone(l)} }

// at is a source of the changes of a row at these positions.
func at(row int, lsns ...int) *source { return of(changes(row, lsns...)...) }

func (s *source) next() (api.Change, bool) {
	s.asked++
	if len(s.left) == 0 {
		s.ended++
		// Beside a false there may be anything: it is no change.
		return change(-77, -77, 77), false
	}
	c := s.left[0]
	s.left = s.left[1:]
	return c, true
}

// merged is a merge of these sources, in their order.
func merged(l ...*source) *merge.Merge {
	m := merge.New()
	for _, s := range l {
		m.Add(s.next)
	}
	return m
}

// tells holds the next changes of a merge against some.
func tells(t *testing.T, m *merge.Merge, want ...api.Change) {
	t.Helper()
	for _, w := range want {
		if c, is := m.Next(); !is || !same(c, w) {
			t.Fatalf("Next: %v, %v, want %v", c, is, w)
		}
	}
}

// ends asks for a false, with nothing beside it, again and again.
func ends(t *testing.T, m *merge.Merge) {
	t.Helper()
	for range 3 {
		if c, is := m.Next(); is || !same(c, api.Change{}) || c.Old != nil || c.New != nil {
			t.Fatalf("Next: %v, %v, want nothing", c, is)
		}
		holds(t, m, 0)
	}
}

func holds(t *testing.T, m *merge.Merge, want int) {
	t.Helper()
	for range 2 {
		if n := m.Held(); n != want {
			t.Fatalf("Held: %d, want %d", n, want)
		}
	}
}

// asks holds how often each source was asked against some numbers, and that none was asked behind its false.
func asks(t *testing.T, what string, l []*source, want ...int) {
	t.Helper()
	for i, s := range l {
		if s.asked != want[i] {
			t.Fatalf("%s: row %d was asked %d times, want %d", what, i+1, s.asked, want[i])
		}
		if s.ended > 1 {
			t.Fatalf("%s: row %d was asked behind its false", what, i+1)
		}
	}
}

// told is all that a merge tells, to its end.
func told(m *merge.Merge) []api.Change {
	var l []api.Change
	for c, is := m.Next(); is; c, is = m.Next() {
		l = append(l, c)
	}
	return l
}

// spoil writes over a row and all of its room.
func spoil(r api.Row) {
	r = r[:cap(r)]
	for i := range r {
		r[i] = text("spoilt")
	}
}

// spoilAll writes over some changes, their rows, and the room of all.
func spoilAll(l []api.Change) {
	l = l[:cap(l)]
	for i := range l {
		spoil(l[i].Old)
		spoil(l[i].New)
		l[i] = change(-99, -99, 99)
	}
}
