package catalog_test

import (
	"math"
	"slices"
	"testing"

	"confluence/api"
	"confluence/catalog"
)

func TestT1RightTables(t *testing.T) {
	for _, n := range []int{1, 2, 255, 256, 65536, last - 1, last} {
		is(t, "a number", catalog.Right(table(n, 1, "t", 0, id)), api.OK)
		is(t, "a version", catalog.Right(table(1, n, "t", 0, id)), api.OK)
	}
	for _, s := range names {
		is(t, "the name "+s, catalog.Right(table(1, 1, s, 0, id)), api.OK)
		is(t, "the column "+s, catalog.Right(table(1, 1, "t", 0, api.Column{Name: s, Kind: api.Int})), api.OK)
	}
	for n := 1; n <= 8; n++ {
		l := columns(n)
		is(t, "columns", catalog.Right(table(1, 1, "t", 0, l...)), api.OK)
		for key := range l {
			l[key] = api.Column{Name: "k", Kind: api.Text}
			is(t, "a key", catalog.Right(table(1, 1, "t", key, l...)), api.OK)
			l = columns(n)
		}
	}
	is(t, "a table's name as a column's", catalog.Right(table(1, 1, "id", 0, id)), api.OK)
}

func TestT1Numbers(t *testing.T) {
	for _, n := range []int{0, -1, last + 1, 1<<32 + 1, math.MinInt, math.MaxInt} {
		is(t, "a number that is none", catalog.Right(table(n, 1, "t", 0, id)), api.ErrArg)
		is(t, "a version that is none", catalog.Right(table(1, n, "t", 0, id)), api.ErrArg)
		is(t, "neither is one", catalog.Right(table(n, n, "t", 0, id)), api.ErrArg)
	}
}

func TestT1Names(t *testing.T) {
	for _, s := range noNames {
		is(t, "a table's name", catalog.Right(table(1, 1, s, 0, id)), api.ErrTableName)
		is(t, "the first column's", catalog.Right(table(1, 1, "t", 0, api.Column{Name: s, Kind: api.Int})), api.ErrTableName)
		is(t, "the last column's", catalog.Right(table(1, 1, "t", 0, append(columns(7), api.Column{Name: s, Kind: api.Int})...)), api.ErrTableName)
	}
	for b := range 256 {
		inside := b >= 'a' && b <= 'z' || b >= '0' && b <= '9' || b == '_'
		want := api.OK
		if !inside {
			want = api.ErrTableName
		}
		is(t, "a byte in a name", catalog.Right(table(1, 1, "a"+string([]byte{byte(b)}), 0, id)), want)
		if b < 'a' || b > 'z' {
			want = api.ErrTableName
		}
		is(t, "a byte as a name", catalog.Right(table(1, 1, string([]byte{byte(b)}), 0, id)), want)
	}
}

func TestT1Columns(t *testing.T) {
	right := func(l ...api.Column) api.Errno { return catalog.Right(table(1, 1, "t", 0, l...)) }
	is(t, "none", right(), api.ErrColumnMany)
	is(t, "an empty list", catalog.Right(api.Table{ID: 1, Version: 1, Name: "t", Columns: []api.Column{}}), api.ErrColumnMany)
	is(t, "eight", right(columns(8)...), api.OK)
	is(t, "nine", right(columns(9)...), api.ErrColumnMany)
	is(t, "a thousand", right(slices.Repeat(columns(8), 125)...), api.ErrColumnMany)
	is(t, "nine that are none", right(make([]api.Column, 9)...), api.ErrColumnMany)
	for i := range 8 {
		for j := range i {
			l := columns(8)
			l[i].Name = l[j].Name
			is(t, "a name twice", right(l...), api.ErrColumnThere)
			l[i].Kind, l[i].Null = 9, true
			is(t, "and of no kind", right(l...), api.ErrColumnThere)
		}
		for _, kind := range noKinds {
			l := columns(8)
			l[i].Kind = kind
			is(t, "of no kind", right(l...), api.ErrArg)
		}
	}
	is(t, "the first one counts: a kind", right(id, api.Column{Name: "b"}, api.Column{Name: "B"}, id), api.ErrArg)
	is(t, "the first one counts: a name", right(id, api.Column{Name: "B"}, api.Column{Name: "b"}, id), api.ErrTableName)
	is(t, "the first one counts: twice", right(id, id, api.Column{Name: "B"}, api.Column{Name: "b"}), api.ErrColumnThere)
	is(t, "no name twice", right(api.Column{Name: "a", Kind: api.Int}, api.Column{}, api.Column{}), api.ErrTableName)
}

func TestT1Keys(t *testing.T) {
	l := []api.Column{id, label, flag, {Name: "text", Kind: api.Text}, {Name: "bool", Kind: api.Bool}, {Name: "n", Kind: api.Int, Null: true}, {Name: "m", Kind: api.Int}}
	for key, want := range []api.Errno{api.OK, api.ErrColumnKey, api.ErrColumnKey, api.OK, api.ErrColumnKey, api.ErrColumnKey, api.OK, api.ErrColumnKey, api.ErrColumnKey} {
		is(t, "the key "+nameOf(key), catalog.Right(table(1, 1, "t", key, l...)), want)
	}
	for _, key := range []int{-1, -7, 8, 256, 1 << 32, math.MinInt, math.MaxInt} {
		is(t, "no place", catalog.Right(table(1, 1, "t", key, l...)), api.ErrColumnKey)
	}
	is(t, "behind the only column", catalog.Right(table(1, 1, "t", 1, id)), api.ErrColumnKey)
}

// TestT1Order: of a table with all faults, one after the other is mended.
func TestT1Order(t *testing.T) {
	x := table(0, 0, "T", -1, make([]api.Column, 9)...)
	step := func(what string, want api.Errno) {
		t.Helper()
		is(t, what, catalog.Right(x), want)
	}
	step("all is wrong", api.ErrArg)
	x.ID = 1
	step("the version", api.ErrArg)
	x.ID, x.Version = 0, 1
	step("the number", api.ErrArg)
	x.ID = 1
	step("the name", api.ErrTableName)
	x.Name = "t"
	step("nine columns", api.ErrColumnMany)
	x.Columns = []api.Column{{Name: "A", Kind: 9}, {Name: "a", Kind: 9}, {Name: "a", Kind: 9}}
	step("a column's name", api.ErrTableName)
	x.Columns[0].Name = "b"
	step("a column's kind", api.ErrArg)
	x.Columns[0].Kind, x.Columns[1].Kind = api.Bool, api.Bool
	step("a column twice", api.ErrColumnThere)
	x.Columns[2].Name = "c"
	step("the last one's kind", api.ErrArg)
	x.Columns[2].Kind = api.Int
	step("the key", api.ErrColumnKey)
	x.Key = 1
	step("a Bool as the key", api.ErrColumnKey)
	x.Key = 2
	step("all is right", api.OK)
}
