package merge_test

import (
	"math"
	"slices"
	"testing"

	"confluence/api"
	"confluence/merge"
)

func listsTo(t *testing.T, what string, l [][]api.Change, want ...api.Change) {
	t.Helper()
	if got := merge.Lists(l); !sameLists(got, want) {
		t.Errorf("%s: %v, want %v", what, got, want)
	}
}

func TestG3Lists(t *testing.T) {
	listsTo(t, "nil", nil)
	listsTo(t, "no lists", [][]api.Change{})
	listsTo(t, "lists without a change", [][]api.Change{nil, {}, nil})
	listsTo(t, "one list", [][]api.Change{changes(1, 1, 2, 3)}, changes(1, 1, 2, 3)...)
	listsTo(t, "one list that does not rise", [][]api.Change{changes(1, 3, 1, 2, 2)}, changes(1, 3, 1, 2, 2)...)
	listsTo(t, "one change", [][]api.Change{nil, changes(2, 7), {}}, change(7, 2, 1))
	listsTo(t, "the first example", [][]api.Change{changes(1, 1, 4, 4), changes(2, 2, 4, 9)},
		change(1, 1, 1), change(2, 2, 1), change(4, 1, 2), change(4, 1, 3), change(4, 2, 2), change(9, 2, 3))
	listsTo(t, "the second example", [][]api.Change{changes(1, 5, 3), changes(2, 4)},
		change(4, 2, 1), change(5, 1, 1), change(3, 1, 2))
	listsTo(t, "the order of the lists", [][]api.Change{changes(3, 5), changes(1, 5, 5), nil, changes(2, 5)},
		change(5, 3, 1), change(5, 1, 1), change(5, 1, 2), change(5, 2, 1))
	listsTo(t, "a first list that comes late", [][]api.Change{changes(1, 1, 2, 7), changes(2, 7, 7), changes(3, 6, 7)},
		change(1, 1, 1), change(2, 1, 2), change(6, 3, 1), change(7, 1, 3), change(7, 2, 1), change(7, 2, 2), change(7, 3, 2))
	listsTo(t, "edges", [][]api.Change{changes(1, 0, math.MaxInt), changes(2, -1, math.MinInt), changes(3, math.MinInt, math.MaxInt)},
		change(math.MinInt, 3, 1), change(-1, 2, 1), change(math.MinInt, 2, 2), change(0, 1, 1), change(math.MaxInt, 1, 2), change(math.MaxInt, 3, 2))
	listsTo(t, "changes of which all is zero", [][]api.Change{{{}, {}}, {{}}}, api.Change{}, api.Change{}, api.Change{})
}

// TestG3ManyLists: more of them than a small merge has room for at first, all at one position and one by one.
func TestG3ManyLists(t *testing.T) {
	for count := range 70 {
		var level, rising, falling [][]api.Change
		var wantLevel, wantRising, wantFalling []api.Change
		for row := range count {
			level = append(level, changes(row, 5, 5))
			wantLevel = append(wantLevel, changes(row, 5, 5)...)
			rising = append(rising, changes(row, row))
			wantRising = append(wantRising, change(row, row, 1))
			falling = append(falling, changes(row, -row))
			wantFalling = append(wantFalling, change(-row, row, 1))
		}
		slices.Reverse(wantFalling)
		listsTo(t, "level", level, wantLevel...)
		listsTo(t, "rising", rising, wantRising...)
		listsTo(t, "falling", falling, wantFalling...)
	}
}

// TestG3AsAMerge: Lists tells what a merge of rows of them tells.
func TestG3AsAMerge(t *testing.T) {
	l := [][]api.Change{changes(1, 5, 3, 8), nil, changes(3, 4, 4, 9, 1), {}, changes(5, 4, 5, 6)}
	var rows []*source
	for _, list := range l {
		rows = append(rows, of(list...))
	}
	listsTo(t, "as a merge", l, told(merged(rows...))...)
}

// TestG3HandedInIsLeft: neither the lists nor what is within them is written into, nor the room behind them, nor kept.
func TestG3HandedInIsLeft(t *testing.T) {
	made := func() [][]api.Change {
		var l [][]api.Change
		for row := range 12 {
			list := changes(row, 5, row, 3, 7, 7)
			for i := range list {
				list[i].Old = list[i].Old[:1]
				list[i].New = list[i].New[:2]
			}
			l = append(l, list[:3])
		}
		return l[:10]
	}
	l, was := made(), made()
	out := merge.Lists(l)
	before := merge.Lists(was)
	spoilAll(out)
	for i, list := range l[:12] {
		for k, c := range list[:5] {
			w := was[:12][i][:5][k]
			c.Old, c.New = c.Old[:2], c.New[:3]
			w.Old, w.New = w.Old[:2], w.New[:3]
			if !same(c, w) {
				t.Fatalf("list %d has %v, want %v", i, c, w)
			}
		}
		if len(list) != 3 {
			t.Fatalf("list %d has %d changes", i, len(list))
		}
	}
	for _, list := range was[:12] {
		spoilAll(list)
	}
	listsTo(t, "what came out behind the lists were written over", made(), before...)
}

// TestG3RowsAreNew: no row that comes out shares memory with another, also where those that were handed in do.
func TestG3RowsAreNew(t *testing.T) {
	one := api.Row{number(1), number(2), number(3)}
	c := api.Change{Lsn: 5, Old: one[:2], New: one[1:]}
	list := []api.Change{c, c}
	want := api.Change{Lsn: 5, Old: api.Row{number(1), number(2)}, New: api.Row{number(2), number(3)}}
	out := merge.Lists([][]api.Change{list, list, {c}})
	if len(out) != 5 {
		t.Fatalf("%d changes", len(out))
	}
	for i := range out {
		if !same(out[i], want) {
			t.Fatalf("number %d: %v, want %v", i, out[i], want)
		}
		spoil(out[i].Old)
		if !slices.Equal(out[i].New, want.New) {
			t.Fatalf("New hangs on Old: %v", out[i])
		}
		spoil(out[i].New)
	}
	if !slices.Equal(one, api.Row{number(1), number(2), number(3)}) {
		t.Errorf("what was handed in is %v", one)
	}
}

func TestG3Rising(t *testing.T) {
	for _, x := range []struct {
		lsns []int
		want bool
	}{
		{nil, true}, {[]int{}, true}, {[]int{0}, true}, {[]int{-5}, true}, {[]int{math.MinInt}, true}, {[]int{math.MaxInt}, true},
		{[]int{1, 2}, true}, {[]int{2, 2}, false}, {[]int{2, 1}, false}, {[]int{0, 0}, false},
		{[]int{-2, -1, 0, 1}, true}, {[]int{-1, -2}, false}, {[]int{-1, 0, 0}, false},
		{[]int{math.MinInt, math.MaxInt}, true}, {[]int{math.MaxInt, math.MinInt}, false},
		{[]int{math.MinInt, -1, 0, math.MaxInt - 1, math.MaxInt}, true}, {[]int{math.MinInt, math.MinInt}, false}, {[]int{math.MaxInt, math.MaxInt}, false},
		{[]int{math.MinInt, math.MinInt + 1}, true}, {[]int{math.MinInt + 1, math.MinInt}, false},
		{[]int{1, 3, 2, 4}, false}, {[]int{1, 2, 3, 3}, false}, {[]int{1, 1, 2, 3}, false}, {[]int{2, 1, 3, 4}, false}, {[]int{1, 2, 4, 3}, false}, {[]int{1, 5, 9}, true},
	} {
		if got := merge.Rising(changes(1, x.lsns...)); got != x.want {
			t.Errorf("Rising of %v: %v", x.lsns, got)
		}
	}
}

// TestG3RisingByLsnAlone: nothing else of a change matters, and nothing is written.
func TestG3RisingByLsnAlone(t *testing.T) {
	l := []api.Change{change(1, 9, 9), change(2, 5, 5), {Lsn: 3}, change(4, 1, 1)}
	was := []api.Change{change(1, 9, 9), change(2, 5, 5), {Lsn: 3}, change(4, 1, 1)}
	if !merge.Rising(l) || merge.Rising([]api.Change{{Lsn: 1, Xid: 1}, {Lsn: 1, Xid: 2}}) {
		t.Error("Rising")
	}
	if !sameLists(l, was) {
		t.Errorf("the list is %v now", l)
	}
	if !merge.Rising(l[:2]) || merge.Rising(append(slices.Clone(l), l[0])) {
		t.Error("Rising of a piece, or of more")
	}
}
