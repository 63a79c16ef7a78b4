package spill_test

import (
	"slices"
	"strings"
	"sync"
	"testing"

	"confluence/api"
	"confluence/files"
	"confluence/spill"
)

// mine is a value that no test writes elsewhere.
func mine() api.Value { return text("mine") }

// roomy has the values of a row at the beginning of a longer list, and that list.
func roomy(l ...api.Value) (api.Row, api.Row) {
	whole := append(slices.Clone(l), mine(), mine(), mine())
	return whole[:len(l)], whole
}

// TestHandedInIsLeft: neither the list nor its rows are written into, nor the room behind them, be it taken or refused.
func TestHandedInIsLeft(t *testing.T) {
	for _, capacity := range []int{10000, 10} {
		for _, lsns := range [][2]int{{5, 6}, {5, 5}, {0, 6}} {
			_, s := begun(t, capacity)
			from, wholeFrom := roomy(number(1), text("a"))
			to, wholeTo := roomy(number(2))
			list := make([]api.Change, 5)
			list[0] = api.Change{Lsn: lsns[0], Xid: 7, Kind: api.RecUpdate, Table: 1, Old: from, New: to}
			list[1] = api.Change{Lsn: lsns[1], Xid: 7, Kind: api.RecInsert, Table: 1, New: to}
			list[2], list[3], list[4] = change(77, 77), change(78, 77), change(79, 77)
			was := slices.Clone(list)
			for range 3 {
				s.Write(7, list[:2])
			}
			if !slices.EqualFunc(list, was, same) {
				t.Errorf("the list is %v now", list)
			}
			if !slices.Equal(wholeFrom, row(number(1), text("a"), mine(), mine(), mine())) || !slices.Equal(wholeTo, row(number(2), mine(), mine(), mine())) {
				t.Errorf("the rows are %v and %v now", wholeFrom, wholeTo)
			}
		}
	}
}

// TestHandedInIsNotKept: what is written over behind a Write changes nothing of what it has written.
func TestHandedInIsNotKept(t *testing.T) {
	_, s := begun(t, 10000)
	list := changes(1, 7, 4)
	writes(t, s, 7, api.OK, list...)
	c := cursor(t, s, 7, 0)
	for i := range list {
		list[i].Old[0], list[i].New[1] = mine(), mine()
		list[i].Lsn, list[i].Table = 1000, 1000
	}
	tells(t, c, changes(1, 7, 4)...)
	reads(t, s, 7, 0, api.OK, changes(1, 7, 4)...)
}

// spoil writes over a row and all of its room.
func spoil(r api.Row) {
	r = r[:cap(r)]
	for i := range r {
		r[i] = mine()
	}
}

// TestRowsAreNew: each row that comes out is written over, with its room; nothing that is told hangs on it, nor another row.
func TestRowsAreNew(t *testing.T) {
	_, s := begun(t, 10000)
	list := changes(1, 7, 4)
	writes(t, s, 7, api.OK, list...)
	c, d := cursor(t, s, 7, 0), cursor(t, s, 7, 0)
	var kept []api.Change
	for i := range list {
		a, _, _ := c.Next()
		b, _, _ := d.Next()
		kept = append(kept, b)
		spoil(a.Old)
		if !same(api.Change{Old: a.New}, api.Change{Old: list[i].New}) {
			t.Errorf("New hangs on Old: %v", a)
		}
		spoil(a.New)
		_ = append(a.Old, mine())
	}
	if !slices.EqualFunc(kept, changes(1, 7, 4), same) || !slices.EqualFunc(list, changes(1, 7, 4), same) {
		t.Errorf("what came out earlier is %v, what was handed in %v", kept, list)
	}
	reads(t, s, 7, 0, api.OK, changes(1, 7, 4)...)
	is(t, "Remove", s.Remove(7), api.OK)
	if !slices.EqualFunc(kept, changes(1, 7, 4), same) {
		t.Errorf("what came out earlier is %v", kept)
	}
}

// TestAllIsNew: the list is written over, with its room.
func TestAllIsNew(t *testing.T) {
	_, s := begun(t, 100000)
	for xid := 1; xid <= 20; xid++ {
		writes(t, s, xid, api.OK, change(1, xid))
		a, b := s.All(), s.All()
		a = a[:cap(a)]
		for i := range a {
			a[i] = -77
		}
		var want []int
		for n := 1; n <= xid; n++ {
			want = append(want, n)
		}
		if !slices.Equal(b, want) || !slices.Equal(s.All(), want) {
			t.Errorf("All: %v, %v, want %v", b, s.All(), want)
		}
	}
}

// TestTwoNames: two stores of different names on one disk have nothing to do with one another, also where one name begins with the other.
func TestTwoNames(t *testing.T) {
	for _, names := range [][2]string{{"a", "b"}, {"a", "ab"}, {"a", "a_"}, {"a", "a1"}, {"ab", "a"}, {strings.Repeat("a", 16), strings.Repeat("a", 15)}} {
		d := loaded(t, 100000)
		a, b := opened(t, d, names[0]), opened(t, d, names[1])
		writes(t, a, 7, api.OK, change(1, 7))
		writes(t, b, 7, api.OK, change(2, 7), change(3, 7))
		writes(t, b, 9, api.OK, change(4, 9))
		writes(t, a, 7, api.OK, change(5, 7))
		knows(t, a, [2]int{7, 2})
		knows(t, b, [2]int{7, 1}, [2]int{9, 1})
		reads(t, a, 7, 0, api.OK, change(1, 7))
		reads(t, b, 7, 0, api.OK, change(2, 7), change(3, 7))
		is(t, "Remove", b.Remove(7), api.OK)
		knows(t, a, [2]int{7, 2})
		reads(t, a, 7, 1, api.OK, change(5, 7))
		again := opened(t, d, names[1])
		knows(t, again)
		reads(t, a, 7, 0, api.OK, change(1, 7))
		reads(t, a, 7, 1, api.OK, change(5, 7))
		is(t, "Remove", a.Remove(7), api.OK)
		lists(t, d)
	}
}

// TestOneNameTwice: a second store of a name takes the files of the first one away; each keeps its own count, and they share the files from then on.
func TestOneNameTwice(t *testing.T) {
	d, a := begun(t, 100000)
	writes(t, a, 7, api.OK, change(1, 7))
	writes(t, a, 7, api.OK, change(2, 7))
	b := opened(t, d, "a")
	lists(t, d)
	knows(t, a, [2]int{7, 2})
	knows(t, b)
	reads(t, a, 7, 0, api.ErrSpillNone)
	cursorNot(t, b, 7, 0, api.ErrSpillNone)

	writes(t, b, 7, api.OK, change(3, 7))
	reads(t, a, 7, 0, api.OK, change(3, 7))
	reads(t, a, 7, 1, api.ErrSpillNone)
	writes(t, a, 7, api.OK, change(4, 7))
	lists(t, d, named(7, 0), named(7, 2))
	writes(t, b, 7, api.OK, change(5, 7))
	costs(t, d, 2, "Write over the other one's file", func() { writes(t, b, 7, api.OK, change(6, 7)) })
	reads(t, a, 7, 2, api.OK, change(6, 7))
	costs(t, d, 3, "Remove", func() { is(t, "Remove", a.Remove(7), api.OK) })
	lists(t, d)
	knows(t, a)
	knows(t, b, [2]int{7, 3})
	costs(t, d, 0, "Remove of what the other one has removed", func() { is(t, "Remove", b.Remove(7), api.OK) })
	knows(t, b)
}

// TestOwnDisks: stores on disks of their own, at a time.
func TestOwnDisks(t *testing.T) {
	var all sync.WaitGroup
	for n := range 8 {
		all.Add(1)
		go func() {
			defer all.Done()
			d, _ := files.New(1000000)
			s, _ := spill.Open(d, "a")
			for k := range 200 {
				l := changes(1000*n+k+1, 7, 3)
				if s.Write(7, l) != api.OK {
					t.Error("Write")
				}
				c, _ := s.Cursor(7, k)
				for _, want := range l {
					if got, ok, e := c.Next(); !same(got, want) || !ok || e != api.OK {
						t.Errorf("Next: %v, %v, %d", got, ok, e)
					}
				}
			}
			if s.Remove(7) != api.OK || len(d.List()) != 0 {
				t.Error("Remove")
			}
		}()
	}
	all.Wait()
}
