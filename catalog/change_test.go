package catalog_test

import (
	"math"
	"slices"
	"testing"

	"confluence/api"
	"confluence/catalog"
)

func TestT3Create(t *testing.T) {
	c := catalog.New()
	var l []api.Table
	for i := 1; i <= 16; i++ {
		cols := columns(1 + i%8)
		x, e := c.Create(nameOf(i), cols, 0)
		l = append(l, table(i, 1, nameOf(i), 0, cols...))
		told(t, "Create", x, e, l[i-1], api.OK)
		knows(t, "behind Create", c, l, i+1)
	}
	x, e := c.Create("more", columns(1), 0)
	refused(t, "a seventeenth", x, e, api.ErrTableMany)
	knows(t, "still sixteen", c, l, 17)
	if _, e := c.Drop(nameOf(3)); e != api.OK {
		t.Fatalf("Drop: %d", e)
	}
	x, e = c.Create("more", columns(1), 0)
	told(t, "room again", x, e, table(17, 1, "more", 0, columns(1)...), api.OK)
	x, e = c.Create("yet", columns(1), 0)
	refused(t, "sixteen again", x, e, api.ErrTableMany)
}

func TestT3Names(t *testing.T) {
	for _, s := range names {
		c := catalog.New()
		x, e := c.Create(s, []api.Column{label, id}, 1)
		told(t, "the name "+s, x, e, table(1, 1, s, 1, label, id), api.OK)
	}
	c := catalog.New()
	for _, s := range noNames {
		x, e := c.Create(s, columns(2), 0)
		refused(t, "no name", x, e, api.ErrTableName)
	}
	knows(t, "behind no names", c, nil, 1)
}

func TestT3LastNumbers(t *testing.T) {
	c := load(t, nil, last)
	x, e := c.Create("a", columns(2), 0)
	told(t, "the last number", x, e, plain(last, "a"), api.OK)
	knows(t, "behind it", c, []api.Table{plain(last, "a")}, last+1)
	x, e = c.Create("b", columns(2), 0)
	refused(t, "no number is left", x, e, api.ErrTableMany)
	x, e = c.Create("a", columns(2), 0)
	refused(t, "it is there", x, e, api.ErrTableThere)
	if _, e := c.Drop("a"); e != api.OK {
		t.Fatalf("Drop: %d", e)
	}
	x, e = c.Create("a", nil, 0)
	refused(t, "and stays gone", x, e, api.ErrTableMany)
	knows(t, "in the end", c, nil, last+1)
}

func TestT3CreateRefuses(t *testing.T) {
	some, full, done := load(t, plains(2), 3), load(t, plains(16), 17), load(t, plains(1), last+1)
	for _, x := range []struct {
		what string
		c    *catalog.Catalog
		name string
		l    []api.Column
		key  int
		want api.Errno
	}{
		{"no name, all else wrong", full, "T", nil, 9, api.ErrTableName},
		{"no name, no number is left", done, "", nil, 9, api.ErrTableName},
		{"it is there, all else wrong", full, "t01", nil, 9, api.ErrTableThere},
		{"it is there", some, "t02", columns(1), 0, api.ErrTableThere},
		{"it is there, no number is left", done, "t01", columns(1), 0, api.ErrTableThere},
		{"too many, all else wrong", full, "u", nil, 9, api.ErrTableMany},
		{"no number is left, all else wrong", done, "u", make([]api.Column, 9), 9, api.ErrTableMany},
		{"no columns", some, "u", nil, 0, api.ErrColumnMany},
		{"nine columns, all else wrong", some, "u", make([]api.Column, 9), -1, api.ErrColumnMany},
		{"a column's name", some, "u", []api.Column{{Name: "A", Kind: 9}}, 9, api.ErrTableName},
		{"a column's name has 17 signs", some, "u", []api.Column{id, {Name: "abcdefghijklmnopq", Kind: api.Int}}, 0, api.ErrTableName},
		{"a column twice", some, "u", []api.Column{id, {Name: "id", Kind: 9}}, 9, api.ErrColumnThere},
		{"no kind", some, "u", []api.Column{id, {Name: "a", Kind: 0}}, 9, api.ErrArg},
		{"another one", some, "u", []api.Column{{Name: "a", Kind: 4}}, 0, api.ErrArg},
		{"a key ahead of the first", some, "u", columns(8), -1, api.ErrColumnKey},
		{"a key behind the last", some, "u", columns(8), 8, api.ErrColumnKey},
		{"a key far behind it", some, "u", columns(8), math.MaxInt, api.ErrColumnKey},
		{"a Bool as the key", some, "u", []api.Column{id, {Name: "b", Kind: api.Bool}}, 1, api.ErrColumnKey},
		{"a key that may be null", some, "u", []api.Column{id, {Name: "b", Kind: api.Int, Null: true}}, 1, api.ErrColumnKey},
	} {
		l, next := x.c.List(), x.c.Next()
		y, e := x.c.Create(x.name, x.l, x.key)
		refused(t, x.what, y, e, x.want)
		knows(t, x.what, x.c, l, next)
	}
}

func TestT4Drop(t *testing.T) {
	for k := range 5 {
		l := plains(5)
		l[k] = table(k+1, 9, nameOf(k+1), 1, label, id, flag)
		c := load(t, l, 7)
		x, e := c.Drop(nameOf(k + 1))
		told(t, "Drop", x, e, l[k], api.OK)
		left := append(slices.Clone(l[:k]), l[k+1:]...)
		knows(t, "what is left", c, left, 7)
		y, f := c.Drop(nameOf(k + 1))
		refused(t, "Drop again", y, f, api.ErrTableNone)
		y, f = c.ByID(k + 1)
		refused(t, "ByID", y, f, api.ErrTableNone)
		y, f = c.Get(nameOf(k + 1))
		refused(t, "Get", y, f, api.ErrTableNone)
		y, f = c.Widen(nameOf(k+1), flag)
		refused(t, "Widen", y, f, api.ErrTableNone)
		y, f = c.Create(nameOf(k+1), columns(2), 0)
		told(t, "there is one of that name again", y, f, plain(7, nameOf(k+1)), api.OK)
		knows(t, "in the end", c, append(left, y), 8)
	}
}

func TestT4DropRefuses(t *testing.T) {
	c := load(t, plains(3), 4)
	for _, s := range append([]string{"t", "t0", "t04", "t011", "id", "c0"}, noNames...) {
		x, e := c.Drop(s)
		refused(t, "Drop", x, e, api.ErrTableNone)
	}
	knows(t, "behind them", c, plains(3), 4)
}

func TestT4Widen(t *testing.T) {
	c := load(t, []api.Table{plain(1, "a"), table(2, 1, "t", 0, id), plain(3, "z")}, 4)
	want := table(2, 1, "t", 0, id)
	for i := range 7 {
		x := api.Column{Name: "w" + string(rune('0'+i)), Kind: 1 + i%3, Null: true}
		want.Columns = append(slices.Clone(want.Columns), x)
		want.Version++
		y, e := c.Widen("t", x)
		told(t, "Widen", y, e, want, api.OK)
		knows(t, "behind it", c, []api.Table{plain(1, "a"), want, plain(3, "z")}, 4)
	}
	y, e := c.Widen("t", api.Column{Name: "w9", Kind: api.Int, Null: true})
	refused(t, "a ninth column", y, e, api.ErrColumnMany)
	knows(t, "still eight", c, []api.Table{plain(1, "a"), want, plain(3, "z")}, 4)
}

func TestT4WidenLastVersion(t *testing.T) {
	c := load(t, []api.Table{table(1, last-1, "t", 0, id)}, 2)
	y, e := c.Widen("t", flag)
	told(t, "the last version", y, e, table(1, last, "t", 0, id, flag), api.OK)
	y, e = c.Widen("t", label)
	refused(t, "none is left", y, e, api.ErrArg)
	y, e = c.Widen("t", flag)
	refused(t, "none is left, and it is there", y, e, api.ErrColumnThere)
	y, e = c.Widen("t", api.Column{Name: "-", Kind: 9})
	refused(t, "none is left, and no name", y, e, api.ErrTableName)
	knows(t, "behind them", c, []api.Table{table(1, last, "t", 0, id, flag)}, 2)
	c = load(t, []api.Table{table(1, last, "t", 0, columns(8)...)}, 2)
	y, e = c.Widen("t", flag)
	refused(t, "none is left, and eight columns", y, e, api.ErrColumnMany)
}

func TestT4WidenRefuses(t *testing.T) {
	l := []api.Table{table(1, 1, "t", 0, id, label), table(2, 1, "wide", 0, columns(8)...), table(3, last, "late", 0, id)}
	c := load(t, l, 4)
	type one struct {
		what, name string
		x          api.Column
		want       api.Errno
	}
	all := []one{
		{"no such table, all else wrong", "u", api.Column{}, api.ErrTableNone},
		{"no name of a table", "T", api.Column{Name: "a", Kind: api.Int, Null: true}, api.ErrTableNone},
		{"no name at all", "", flag, api.ErrTableNone},
		{"eight columns, all else wrong", "wide", api.Column{}, api.ErrColumnMany},
		{"eight columns, and one of that name", "wide", columns(8)[3], api.ErrColumnMany},
		{"eight columns", "wide", flag, api.ErrColumnMany},
		{"it is there, all else wrong", "t", api.Column{Name: "name", Kind: 9}, api.ErrColumnThere},
		{"it is there", "t", label, api.ErrColumnThere},
		{"the key's name", "t", api.Column{Name: "id", Kind: api.Int, Null: true}, api.ErrColumnThere},
		{"it is there, no version is left", "late", id, api.ErrColumnThere},
		{"it may not be null", "t", api.Column{Name: "x", Kind: api.Int}, api.ErrArg},
		{"a Text that may not be null", "t", api.Column{Name: "x", Kind: api.Text}, api.ErrArg},
		{"a Bool that may not be null", "t", api.Column{Name: "x", Kind: api.Bool}, api.ErrArg},
		{"no version is left", "late", flag, api.ErrArg},
	}
	for _, s := range noNames {
		all = append(all, one{"no name of a column", "t", api.Column{Name: s, Kind: api.Int, Null: true}, api.ErrTableName}, one{"no name, all else wrong", "late", api.Column{Name: s, Kind: 9}, api.ErrTableName})
	}
	for _, kind := range noKinds {
		all = append(all, one{"no kind", "t", api.Column{Name: "x", Kind: kind, Null: true}, api.ErrArg}, one{"no kind, not null", "t", api.Column{Name: "x", Kind: kind}, api.ErrArg})
	}
	for _, x := range all {
		y, e := c.Widen(x.name, x.x)
		refused(t, x.what, y, e, x.want)
		knows(t, x.what, c, l, 4)
	}
}

func TestT4WidenNames(t *testing.T) {
	for _, s := range names {
		c := load(t, []api.Table{table(1, 1, "t", 0, id)}, 2)
		x := api.Column{Name: s, Kind: api.Bool, Null: true}
		y, e := c.Widen("t", x)
		told(t, "the name "+s, y, e, table(1, 2, "t", 0, id, x), api.OK)
	}
}

func TestExamples(t *testing.T) {
	c := catalog.New()
	x, e := c.Create("t", []api.Column{id, label}, 0)
	told(t, "example 1", x, e, table(1, 1, "t", 0, id, label), api.OK)
	x, e = c.Create("t", []api.Column{id, label}, 0)
	refused(t, "example 1", x, e, api.ErrTableThere)
	x, e = c.Create("u", []api.Column{{Name: "a", Kind: api.Bool}}, 0)
	refused(t, "example 1", x, e, api.ErrColumnKey)
	x, e = c.Create("u", []api.Column{{Name: "a", Kind: api.Int}, {Name: "a", Kind: api.Text}}, 0)
	refused(t, "example 1", x, e, api.ErrColumnThere)
	knows(t, "example 1", c, []api.Table{table(1, 1, "t", 0, id, label)}, 2)

	wide := table(1, 2, "t", 0, id, label, flag)
	x, e = c.Widen("t", flag)
	told(t, "example 2", x, e, wide, api.OK)
	x, e = c.Widen("t", api.Column{Name: "x", Kind: api.Int})
	refused(t, "example 2", x, e, api.ErrArg)
	if r, e := catalog.Fit(wide, api.Row{one}); !slices.Equal(r, api.Row{one, null, null}) || e != api.OK {
		t.Errorf("example 2: Fit = %v, %d", r, e)
	}
	if r, e := catalog.Fit(wide, api.Row{null}); len(r) != 0 || e != api.ErrRowFit {
		t.Errorf("example 2: Fit = %v, %d", r, e)
	}

	x, e = c.Drop("t")
	told(t, "example 3", x, e, wide, api.OK)
	x, e = c.Get("t")
	refused(t, "example 3", x, e, api.ErrTableNone)
	x, e = c.Create("t", []api.Column{id}, 0)
	told(t, "example 3", x, e, table(2, 1, "t", 0, id), api.OK)
}
