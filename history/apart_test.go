package history_test

import (
	"slices"
	"sync"
	"testing"

	"confluence/api"
	"confluence/history"
)

var mine = api.Column{Name: "mine", Kind: 9}

// roomy is the same table, whose columns have spare room that is written full.
func roomy(x api.Table) api.Table {
	n := len(x.Columns)
	x.Columns = append(slices.Clone(x.Columns), slices.Repeat([]api.Column{mine}, 9)...)[:n]
	return x
}

// untouched holds a roomy table against what was in it.
func untouched(t *testing.T, what string, got, want api.Table) {
	t.Helper()
	room := got.Columns[len(got.Columns) : len(got.Columns)+9]
	if !same(got, want) || slices.ContainsFunc(room, func(c api.Column) bool { return c != mine }) {
		t.Errorf("%s: the table that was handed in is %+v, its room %+v", what, got, room)
	}
}

// spoil writes over a list of columns and all of its room.
func spoil(l []api.Column) {
	l = l[:cap(l)]
	for i := range l {
		l[i] = mine
	}
}

// spoilAll writes over a list of tables, all that is within, and all of its room.
func spoilAll(l []api.Table) {
	l = l[:cap(l)]
	for i := range l {
		spoil(l[i].Columns)
		l[i] = api.Table{ID: 7, Version: 7, Name: "mine", Columns: []api.Column{mine}}
	}
}

func TestListsThatAreHandedToNew(t *testing.T) {
	want := tables(1, 2, 5)
	l := append(tables(1, 2, 5), table(9, 9))[:3]
	for i := range l {
		l[i] = roomy(l[i])
	}
	x, y := begun(t, 10, l...), begun(t, 20, l...)
	x.put(11, table(1, 2))
	x.gone(12, 2)
	x.trims(12, 3, 2)
	for i := range l {
		untouched(t, "New", l[i], want[i])
	}
	if room := l[:4][3]; !same(room, table(9, 9)) {
		t.Errorf("the list's room has %+v", room)
	}
	y.lists(20, want...)
	spoilAll(l)
	y.lists(20, want...)
	x.lists(12, table(1, 2), want[2])
	z := begun(t, 1, tables(1)...)
	given := []api.Table{roomy(table(1, 1))}
	if h, e := history.New(given, 0); h != nil || e != api.ErrArg {
		t.Errorf("New at 0: %d", e)
	}
	untouched(t, "New that is refused", given[0], table(1, 1))
	z.lists(1, table(1, 1))
}

func TestTablesThatAreHandedToPut(t *testing.T) {
	x := begun(t, 10, table(1, 1))
	l := []api.Table{roomy(table(1, 2)), roomy(table(2, 1)), roomy(table(1, 3))}
	for i, given := range l {
		x.put(11+i, given)
		x.puts(11+i, given, api.ErrHistoryOrder)
	}
	untouched(t, "Put", l[0], table(1, 2))
	untouched(t, "Put", l[1], table(2, 1))
	untouched(t, "Put", l[2], table(1, 3))
	for _, given := range l {
		spoil(given.Columns)
	}
	x.at(table(1, 1), 10)
	x.at(table(1, 2), 11, 12)
	x.at(table(2, 1), 12)
	x.at(table(1, 3), 13)
	// One list that is used again for each table.
	one := roomy(table(3, 1))
	x.put(14, one)
	one.Columns[1].Name = "other"
	one.Version = 2
	x.put(15, one)
	want := table(3, 2)
	want.Name, want.Columns = one.Name, slices.Clone(one.Columns)
	spoil(one.Columns)
	x.at(table(3, 1), 14)
	x.at(want, 15)
	wrong := roomy(table(0, 1))
	x.puts(16, wrong, api.ErrArg)
	untouched(t, "Put that is refused", wrong, table(0, 1))
}

func TestWhatComesOutIsNew(t *testing.T) {
	x := begun(t, 10, tables(1, 2, 5)...)
	x.put(20, table(2, 2))
	x.put(30, table(3, 1))
	all := []api.Table{table(1, 1), table(2, 2), table(3, 1), table(5, 1)}
	for _, lsn := range []int{10, 20, 30, 99} {
		for _, number := range []int{1, 2, 3, 5} {
			a, _ := x.h.At(lsn, number)
			b, _ := x.h.At(lsn, number)
			keep := slices.Clone(b.Columns)
			spoil(a.Columns)
			if !slices.Equal(b.Columns, keep) {
				t.Errorf("At(%d, %d): two answers share memory", lsn, number)
			}
			spoil(b.Columns)
		}
		l, _ := x.h.List(lsn)
		other, _ := x.h.List(lsn)
		keep, _ := x.h.List(lsn)
		for i := range l {
			spoil(l[i].Columns)
			if !slices.EqualFunc(l[i+1:], keep[i+1:], same) {
				t.Errorf("List(%d): tables of one answer share memory", lsn)
			}
		}
		spoilAll(l)
		if !slices.EqualFunc(other, keep, same) {
			t.Errorf("List(%d): two answers share memory", lsn)
		}
		spoilAll(other)
		spoilAll(keep)
	}
	x.lists(10, tables(1, 2, 5)...)
	x.lists(30, all...)
	l, _ := x.h.List(30)
	x.trims(30, 1, 4)
	x.put(31, table(1, 2))
	x.gone(32, 5)
	if !slices.EqualFunc(l, all, same) {
		t.Errorf("a list that came out is changed by later calls: %+v", l)
	}
	spoilAll(l)
	x.lists(32, table(1, 2), table(2, 2), table(3, 1))
}

// TestSpareRoomOfWhatComesOut: what is appended to one answer is not seen in another.
func TestSpareRoomOfWhatComesOut(t *testing.T) {
	x := begun(t, 10, tables(1, 2)...)
	a, _ := x.h.At(10, 1)
	b, _ := x.h.At(10, 1)
	l, _ := x.h.List(10)
	a.Columns = append(a.Columns, mine)
	b.Columns = append(b.Columns, flag)
	l[0].Columns = append(l[0].Columns, id)
	l[1].Columns = append(l[1].Columns, id)
	if n := len(a.Columns) - 1; a.Columns[n] != mine || b.Columns[n] != flag {
		t.Errorf("%+v, %+v", a, b)
	}
	x.lists(10, tables(1, 2)...)
}

// TestHistoriesSideBySide: what is done to one is not seen in another.
func TestHistoriesSideBySide(t *testing.T) {
	l := tables(1, 2)
	x, y := begun(t, 10, l...), begun(t, 10, l...)
	x.put(20, table(1, 2))
	y.gone(15, 1)
	x.trims(20, 1, 2)
	y.put(16, table(1, 3))
	x.gone(21, 2)
	x.lists(21, table(1, 2))
	y.lists(10, l...)
	y.lists(15, table(2, 1))
	y.lists(21, table(1, 3), table(2, 1))
	x.spans(20, 21)
	y.spans(10, 16)
	x.noted(3)
	y.noted(4)
}

// TestAtOneTime: histories are worked on at one time, and one is asked; a race would be found by go test -race.
func TestAtOneTime(t *testing.T) {
	l := tables(1, 2, 3)
	asked := begun(t, 10, l...)
	asked.put(20, table(1, 2))
	var all sync.WaitGroup
	for range 8 {
		all.Go(func() {
			h, e := history.New(l, 10)
			if e != api.OK {
				t.Errorf("New: %d", e)
				return
			}
			for i := range 200 {
				h.Put(11+2*i, table(1+i%4, 1+i))
				h.Gone(12+2*i, 1+i%3)
				h.List(i)
				h.Trim(2 * i)
				asked.lists(15, tables(1, 2, 3)...)
				asked.at(table(1, 2), 20)
				asked.noted(4)
			}
		})
	}
	all.Wait()
	asked.lists(20, table(1, 2), table(2, 1), table(3, 1))
}
