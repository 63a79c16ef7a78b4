package catalog_test

import (
	"math"
	"testing"

	"confluence/api"
	"confluence/catalog"
)

func TestT2New(t *testing.T) {
	c := catalog.New()
	knows(t, "a new one", c, nil, 1)
	for _, s := range append([]string{"t"}, noNames...) {
		x, e := c.Get(s)
		refused(t, "Get", x, e, api.ErrTableNone)
	}
	for _, n := range []int{-1, 0, 1, last, math.MinInt, math.MaxInt} {
		x, e := c.ByID(n)
		refused(t, "ByID", x, e, api.ErrTableNone)
	}
	if _, e := catalog.New().Create("t", columns(1), 0); e != api.OK {
		t.Errorf("Create in another one: %d", e)
	}
	knows(t, "the first one behind that", c, nil, 1)
}

func TestT2Load(t *testing.T) {
	wide := table(last, last, "abcdefghijklmnop", 7, append(columns(7), api.Column{Name: "k", Kind: api.Text})...)
	for _, x := range []struct {
		what string
		l    []api.Table
		next int
	}{
		{"nothing", nil, 1},
		{"an empty list", []api.Table{}, 7},
		{"nothing, and no number is left", nil, last + 1},
		{"nothing, and one is left", nil, last},
		{"one", plains(1), 2},
		{"one, and a gap behind it", plains(1), 100},
		{"one that is not the first", []api.Table{plain(9, "a")}, 10},
		{"gaps", []api.Table{plain(2, "b"), plain(5, "a"), plain(900, "c")}, 901},
		{"the greatest number", []api.Table{plain(1, "a"), wide}, last + 1},
		{"the one ahead of it", []api.Table{plain(last-1, "a")}, last},
		{"sixteen", plains(16), 17},
	} {
		c := load(t, x.l, x.next)
		knows(t, x.what, c, x.l, x.next)
	}
}

func TestT2LoadRefuses(t *testing.T) {
	a, b := plain(2, "a"), plain(5, "b")
	bad := func(f func(*api.Table)) api.Table {
		x := plain(5, "b")
		f(&x)
		return x
	}
	for _, x := range []struct {
		what string
		l    []api.Table
		next int
		want api.Errno
	}{
		{"nought as the next number", nil, 0, api.ErrArg},
		{"below nought", nil, -1, api.ErrArg},
		{"the least number", nil, math.MinInt, api.ErrArg},
		{"behind the last next number", nil, last + 2, api.ErrArg},
		{"the greatest number", nil, math.MaxInt, api.ErrArg},
		{"no next number, and too many", plains(17), 0, api.ErrArg},
		{"too many", plains(17), 18, api.ErrTableMany},
		{"too many that are none", make([]api.Table, 17), 1, api.ErrTableMany},
		{"a number like the next one", []api.Table{a, b}, 5, api.ErrArg},
		{"a number above the next one", []api.Table{a, b}, 3, api.ErrArg},
		{"the first one above it", []api.Table{a, b}, 2, api.ErrArg},
		{"a next number that is not above 1", plains(1), 1, api.ErrArg},
		{"the greatest one like the next", []api.Table{plain(last, "a")}, last, api.ErrArg},
		{"they fall", []api.Table{b, a}, 6, api.ErrArg},
		{"a number twice", []api.Table{a, plain(2, "b")}, 6, api.ErrArg},
		{"a table twice", []api.Table{a, a}, 6, api.ErrArg},
		{"a number twice, not side by side", []api.Table{plain(1, "x"), a, plain(1, "b")}, 6, api.ErrArg},
		{"a name twice", []api.Table{a, plain(5, "a")}, 6, api.ErrTableThere},
		{"a name twice, not side by side", []api.Table{a, b, plain(6, "a")}, 7, api.ErrTableThere},
		{"a name twice, and they fall", []api.Table{b, plain(2, "b")}, 6, api.ErrArg},
		{"a name twice, and too great", []api.Table{a, plain(6, "a")}, 6, api.ErrArg},
		{"number nought", []api.Table{plain(0, "a")}, 6, api.ErrArg},
		{"a number that is none", []api.Table{plain(last+1, "a")}, last + 1, api.ErrArg},
		{"version nought", []api.Table{a, bad(func(x *api.Table) { x.Version = 0 })}, 6, api.ErrArg},
		{"no name", []api.Table{a, bad(func(x *api.Table) { x.Name = "B" })}, 6, api.ErrTableName},
		{"no columns", []api.Table{a, bad(func(x *api.Table) { x.Columns = nil })}, 6, api.ErrColumnMany},
		{"nine columns", []api.Table{a, bad(func(x *api.Table) { x.Columns = columns(9) })}, 6, api.ErrColumnMany},
		{"a column twice", []api.Table{a, bad(func(x *api.Table) { x.Columns = []api.Column{id, id} })}, 6, api.ErrColumnThere},
		{"no kind", []api.Table{a, bad(func(x *api.Table) { x.Columns[1].Kind = 0 })}, 6, api.ErrArg},
		{"no key", []api.Table{a, bad(func(x *api.Table) { x.Key = 1 })}, 6, api.ErrColumnKey},
		{"not right, and they fall", []api.Table{plain(7, "c"), bad(func(x *api.Table) { x.Name = "" })}, 8, api.ErrTableName},
		{"not right, and a name twice", []api.Table{a, bad(func(x *api.Table) { x.Name, x.Key = "a", 9 })}, 6, api.ErrColumnKey},
		{"first a name twice, then not right", []api.Table{a, plain(3, "a"), {}}, 6, api.ErrTableThere},
		{"first not right, then they fall", []api.Table{bad(func(x *api.Table) { x.Key = 9 }), a}, 6, api.ErrColumnKey},
		{"first they fall, then not right", []api.Table{b, a, bad(func(x *api.Table) { x.Name = "" })}, 6, api.ErrArg},
		{"the sixteenth", append(plains(15), plain(16, "t01")), 17, api.ErrTableThere},
	} {
		if c, e := catalog.Load(x.l, x.next); e != x.want || c != nil {
			t.Errorf("%s: Load = %v, %d, want %d", x.what, c, e, x.want)
		}
	}
}

// TestT5Gaps: what is found stands where it stands, also where numbers are missing.
func TestT5Gaps(t *testing.T) {
	l := []api.Table{plain(2, "zz"), table(5, 3, "a", 1, label, id, flag), plain(900, "m")}
	c := load(t, l, 1000)
	knows(t, "gaps", c, l, 1000)
	for _, n := range []int{0, 1, 3, 4, 6, 899, 901, 999, 1000, -2, 1<<32 + 2, last, last + 1, math.MinInt, math.MaxInt} {
		x, e := c.ByID(n)
		refused(t, "ByID", x, e, api.ErrTableNone)
	}
	for _, s := range append([]string{"z", "zzz", "b", "aa", "zz\x00", "t"}, noNames...) {
		x, e := c.Get(s)
		refused(t, "Get", x, e, api.ErrTableNone)
	}
	knows(t, "asking changes nothing", c, l, 1000)
}
