package record_test

import (
	"slices"
	"sync"
	"testing"

	"confluence/api"
	"confluence/record"
)

var (
	mine       = api.Value{Kind: 9, N: 9, S: "mine"}
	mineColumn = api.Column{Name: "mine", Kind: 9}
	mineTable  = api.Table{ID: 77, Version: 7, Name: "mine", Key: 7}
)

// roomy is the same list, with spare room that is written full.
func roomy[L ~[]E, E any](l L, filler E) L {
	out := append(slices.Clone(l), slices.Repeat(L{filler}, 9)...)
	return out[:len(l)]
}

// room is what stands behind a list.
func room[L ~[]E, E any](l L) L { return l[len(l):cap(l)] }

// inRoom is the same record with room behind each list of it.
func inRoom(r api.Rec) api.Rec {
	r.Old, r.New = roomy(r.Old, mine), roomy(r.New, mine)
	r.Tab.Columns = roomy(r.Tab.Columns, mineColumn)
	r.Tabs = roomy(r.Tabs, mineTable)
	for i := range r.Tabs {
		r.Tabs[i].Columns = roomy(r.Tabs[i].Columns, mineColumn)
	}
	return r
}

// untouched holds a record with room against what it was.
func untouched(t *testing.T, what string, r, want api.Rec) {
	t.Helper()
	other := func(l []api.Column) bool {
		return slices.ContainsFunc(room(l)[:9], func(c api.Column) bool { return c != mineColumn })
	}
	spoilt := !equal(r, want) || other(r.Tab.Columns)
	for _, l := range []api.Row{r.Old, r.New} {
		spoilt = spoilt || slices.ContainsFunc(room(l)[:9], func(v api.Value) bool { return v != mine })
	}
	for _, x := range r.Tabs {
		spoilt = spoilt || other(x.Columns)
	}
	spoilt = spoilt || slices.ContainsFunc(room(r.Tabs)[:9], func(x api.Table) bool { return !equalTable(x, mineTable) })
	if spoilt {
		t.Errorf("%s: what was handed in is %+v now", what, r)
	}
}

// spoil writes over all lists of a record, what is within, and their room.
func spoil(r api.Rec) {
	fill := func(l []api.Column) {
		for i := range l[:cap(l)] {
			l[:cap(l)][i] = mineColumn
		}
	}
	for _, l := range []api.Row{r.Old, r.New} {
		for i := range l[:cap(l)] {
			l[:cap(l)][i] = mine
		}
	}
	fill(r.Tab.Columns)
	for i, x := range r.Tabs[:cap(r.Tabs)] {
		fill(x.Columns)
		r.Tabs[:cap(r.Tabs)][i] = mineTable
	}
}

func TestHandedInListsAreNotTouched(t *testing.T) {
	for _, c := range samples() {
		r := inRoom(c.r)
		s, e := record.Encode(r)
		untouched(t, "Encode", r, c.r)
		p := record.Print(r)
		untouched(t, "Print", r, c.r)
		spoil(r)
		if s != c.s || e != api.OK || p != c.p {
			t.Errorf("with room: %x, %d, %s, want %x, %s", s, e, p, c.s, c.p)
		}
		if s, e = record.Encode(c.r); s != c.s || e != api.OK {
			t.Errorf("once more: %x, %d, want %x", s, e, c.s)
		}
	}
}

func TestRefusedListsAreNotTouched(t *testing.T) {
	for _, want := range []api.Rec{
		{Kind: 16, Old: pair(), New: pair(), Tab: thing(), Tabs: tablesUpTo(2)},
		{Kind: api.RecUpdate, Xid: 1, Table: 1, Old: pair(), New: sevens(9)},
		{Kind: api.RecCreate, Xid: 1, Tab: changed(func(x *api.Table) { x.Key = 1 })},
		checkpoint(1, 9, other(), thing()), checkpoint(1, 1, tablesUpTo(2)...),
	} {
		r := inRoom(want)
		record.Encode(r)
		record.Print(r)
		untouched(t, "refused", r, want)
	}
}

// TestWhatComesOutIsNew writes over what one call told, all of its room too: another call's is as it was.
func TestWhatComesOutIsNew(t *testing.T) {
	for _, c := range samples() {
		first, _ := record.Decode(c.s)
		second, _ := record.Decode(c.s)
		spoil(first)
		third, _ := record.Decode(c.s)
		if !equal(second, c.r) || !equal(third, c.r) {
			t.Errorf("of %x: %+v, %+v, want %+v", c.s, second, third, c.r)
		}
	}
}

// TestListsOfOneAnswerAreApart writes over one list of an answer, its room too: the others are as they were.
func TestListsOfOneAnswerAreApart(t *testing.T) {
	update := api.Rec{Kind: api.RecUpdate, Xid: 1, Table: 2, Old: pair(), New: pair()}
	s, _ := record.Encode(update)
	r, _ := record.Decode(s)
	spoil(api.Rec{Old: r.Old})
	if !slices.Equal(r.New, update.New) {
		t.Errorf("the new row is %+v", r.New)
	}
	r, _ = record.Decode(s)
	spoil(api.Rec{New: r.New})
	if !slices.Equal(r.Old, update.Old) {
		t.Errorf("the old row is %+v", r.Old)
	}
	want := checkpoint(1, 99, tablesUpTo(16)...)
	s, _ = record.Encode(want)
	for i := range want.Tabs {
		r, _ := record.Decode(s)
		spoil(api.Rec{Tab: r.Tabs[i]})
		r.Tabs[i].Columns = slices.Clone(want.Tabs[i].Columns)
		if !equal(r, want) {
			t.Fatalf("when the columns of table %d are written over: %+v", i, r)
		}
	}
}

// TestSideBySide has one record asked for by several at a time: none writes into it.
func TestSideBySide(t *testing.T) {
	l := samples()
	var all sync.WaitGroup
	for range 8 {
		all.Go(func() {
			for range 50 {
				for _, c := range l {
					s, e := record.Encode(c.r)
					r, f := record.Decode(s)
					if s != c.s || !equal(r, c.r) || e != api.OK || f != api.OK || record.Print(r) != c.p {
						t.Errorf("%+v: %x, %d, %+v, %d", c.r, s, e, r, f)
					}
				}
			}
		})
	}
	all.Wait()
}
