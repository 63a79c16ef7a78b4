package history_test

import (
	"math"
	"slices"
	"testing"

	"confluence/api"
	"confluence/history"
)

// refuses holds that there is no history of that.
func refuses(t *testing.T, what string, l []api.Table, lsn int) {
	t.Helper()
	if h, e := history.New(l, lsn); h != nil || e != api.ErrArg {
		t.Errorf("%s: %v, %d, want ErrArg", what, h, e)
	}
}

func TestT1Positions(t *testing.T) {
	for _, lsn := range []int{0, -1, -8192, math.MinInt32, math.MinInt} {
		refuses(t, "no position", nil, lsn)
		refuses(t, "no position", tables(1), lsn)
	}
	for _, lsn := range []int{1, 2, 8192, math.MaxInt32 + 1, math.MaxInt - 1, math.MaxInt} {
		for _, l := range [][]api.Table{nil, {}, tables(1), tables(3, 4, 9)} {
			x := begun(t, lsn, l...)
			x.noted(len(l))
			x.spans(lsn, lsn)
			x.lists(lsn, l...)
			x.lists(math.MaxInt, l...)
			for _, want := range l {
				x.at(want, lsn, math.MaxInt)
				x.none(want.ID, lsn-1)
			}
			x.none(never, lsn, math.MaxInt)
		}
	}
}

func TestT1NoTable(t *testing.T) {
	x := begun(t, 5)
	x.noted(0)
	x.lists(5)
	x.lists(6)
	x.none(1, 4, 5, 6)
	x.goes(6, 1, api.ErrHistoryNone)
	x.put(6, table(1, 1))
	x.lists(5)
	x.lists(6, table(1, 1))
	x.noted(1)
}

func TestT1TablesThatAreNotRight(t *testing.T) {
	for what, wrong := range noTables() {
		refuses(t, what+", alone", []api.Table{wrong}, 1)
		refuses(t, what+", behind a right one", []api.Table{table(4, 1), wrong}, 1)
		refuses(t, what+", ahead of a right one", []api.Table{wrong, table(6, 1)}, 1)
		refuses(t, what+", between right ones", []api.Table{table(4, 1), wrong, table(6, 1)}, math.MaxInt)
		refuses(t, what+", and no position", []api.Table{wrong}, 0)
	}
}

func TestT1Order(t *testing.T) {
	for _, l := range [][]int{{1, 1}, {2, 1}, {api.MaxXid, api.MaxXid}, {api.MaxXid, 1}, {1, 2, 2}, {1, 3, 2}, {2, 3, 1}, {1, 1, 2}, {3, 2, 4}, {2, 1, 3}} {
		refuses(t, "numbers that do not rise", tables(l...), 100)
	}
	refuses(t, "one number in two versions", []api.Table{table(1, 1), table(1, 2)}, 100)
	for _, l := range [][]int{{1}, {api.MaxXid}, {1, 2}, {1, api.MaxXid}, {api.MaxXid - 1, api.MaxXid}, {1, 2, 3, 4, 5}, {2, 70, 9000, 100000}} {
		x := begun(t, 100, tables(l...)...)
		x.noted(len(l))
		x.lists(100, tables(l...)...)
	}
}

// TestT1Many: a history may have more tables than a catalog.
func TestT1Many(t *testing.T) {
	numbers := upTo(5000)[1:]
	x := begun(t, 3, tables(numbers...)...)
	x.noted(5000)
	x.lists(3, tables(numbers...)...)
	for _, n := range numbers {
		x.at(table(n, 1), 3)
	}
	x.trims(4, 0, 5000)
	x.lists(4, tables(numbers...)...)
}

// TestT1TablesOfOneName: names are not held against one another.
func TestT1TablesOfOneName(t *testing.T) {
	l := tables(1, 2, 3)
	l[1].Name, l[2].Name = l[0].Name, l[0].Name
	x := begun(t, 1, l...)
	x.lists(1, l...)
	more := table(4, 1)
	more.Name = l[0].Name
	x.put(2, more)
	x.lists(2, append(slices.Clone(l), more)...)
	x.gone(3, 2)
	x.lists(3, l[0], l[2], more)
	renamed := table(1, 2)
	x.put(4, renamed)
	x.lists(4, renamed, l[2], more)
	x.noted(6)
}

// TestT1AllThatMayBe: what is right at both ends of it is told as it was.
func TestT1AllThatMayBe(t *testing.T) {
	eight := []api.Column{flag, {Name: "abcdefghijklmnop", Kind: api.Text}}
	for _, name := range []string{"a", "b", "c", "d", "e", "f_9"} {
		eight = append(eight, api.Column{Name: name, Kind: api.Text, Null: true})
	}
	great := api.Table{ID: api.MaxXid, Version: api.MaxXid, Name: "z_______________", Columns: eight, Key: 1}
	small := api.Table{ID: 1, Version: 1, Name: "a", Columns: []api.Column{id}}
	x := begun(t, 1, small, great)
	x.lists(1, small, great)
	x.at(small, 1, math.MaxInt)
	x.at(great, 1, math.MaxInt)
	y := begun(t, 1)
	y.put(2, great)
	y.put(3, small)
	y.lists(3, small, great)
	y.lists(2, great)
}
