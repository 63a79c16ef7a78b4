package catalog_test

import (
	"math"
	"reflect"
	"slices"
	"strings"
	"testing"

	"confluence/api"
	"confluence/catalog"
)

const last = 2147483647 // the greatest number of a table, and of a version

var (
	null = api.Value{}
	one  = api.Value{Kind: api.Int, N: 1}
	yes  = api.Value{Kind: api.Bool, N: 1}
	word = api.Value{Kind: api.Text, S: "a"}

	id    = api.Column{Name: "id", Kind: api.Int}
	label = api.Column{Name: "name", Kind: api.Text, Null: true}
	flag  = api.Column{Name: "flag", Kind: api.Bool, Null: true}

	noTable = api.Table{}
)

// names are some that may be, at both ends of what a name may have.
var names = []string{"a", "z", "t", "aa", "a0", "a9", "a_", "az", "a_0", "x__", "tableofthings", "abcdefghijklmnop", "a123456789012345", "a_______________", "zzzzzzzzzzzzzzzz"}

// noNames are none; many of them nearly are.
var noNames = []string{
	"", "_", "0", "9", "_a", "0a", "A", "Z", "T", "aA", "aZ", "Aa", " ", " a", "a ", "a b", "a-b", "a.b", "a\x00", "\x00", "a\n", "a`", "a{", "`", "{", "a/", "a:", "a@", "a[", "a^", "é", "aé", "ａ", "a\xff", "\xff", "'a'",
	"abcdefghijklmnopq", "a1234567890123456", "abcdefghijklmno ", "abcdefghijklmnoP", "abcdefghijklmnoé", strings.Repeat("a", 32), strings.Repeat("a", 272), strings.Repeat("a", 1<<16),
}

var noKinds = []int{api.Null, 4, 5, -1, 257, 1<<32 + 1, math.MinInt, math.MaxInt}

// columns are so many right ones, the first of them a key.
func columns(n int) []api.Column {
	var l []api.Column
	for i := range n {
		l = append(l, api.Column{Name: "c" + string(rune('0'+i)), Kind: 1 + i%3, Null: i > 0})
	}
	return l
}

func table(id, version int, name string, key int, l ...api.Column) api.Table {
	return api.Table{ID: id, Version: version, Name: name, Columns: l, Key: key}
}

// plain is a right table of that number and name.
func plain(id int, name string) api.Table { return table(id, 1, name, 0, columns(2)...) }

// nameOf is another name for each number up to 99.
func nameOf(i int) string { return "t" + string(rune('0'+i/10)) + string(rune('0'+i%10)) }

// plains are tables with the numbers 1 to n.
func plains(n int) []api.Table {
	var l []api.Table
	for i := 1; i <= n; i++ {
		l = append(l, plain(i, nameOf(i)))
	}
	return l
}

// same tells whether two tables are the same in all.
func same(a, b api.Table) bool {
	l, m := a.Columns, b.Columns
	a.Columns, b.Columns = nil, nil
	return reflect.DeepEqual(a, b) && slices.Equal(l, m)
}

// deep is a copy that shares nothing.
func deep(l []api.Table) []api.Table {
	out := slices.Clone(l)
	for i := range out {
		out[i].Columns = slices.Clone(out[i].Columns)
	}
	return out
}

// load is a catalog of what must be right.
func load(t *testing.T, l []api.Table, next int) *catalog.Catalog {
	t.Helper()
	c, e := catalog.Load(l, next)
	if e != api.OK || c == nil {
		t.Fatalf("Load of %d tables, next %d: %d", len(l), next, e)
	}
	return c
}

func is(t *testing.T, what string, got, want api.Errno) {
	t.Helper()
	if got != want {
		t.Errorf("%s: %d, want %d", what, got, want)
	}
}

// told holds a table and an error against those that should have come.
func told(t *testing.T, what string, got api.Table, e api.Errno, want api.Table, f api.Errno) {
	t.Helper()
	if !same(got, want) || e != f {
		t.Errorf("%s: %+v, %d, want %+v, %d", what, got, e, want, f)
	}
}

// refused holds an error against the one that should have come, and that nothing came beside it.
func refused(t *testing.T, what string, got api.Table, e, want api.Errno) {
	t.Helper()
	told(t, what, got, e, noTable, want)
}

// knows holds all that a catalog tells against what it should know.
func knows(t *testing.T, what string, c *catalog.Catalog, l []api.Table, next int) {
	t.Helper()
	if got := c.List(); !slices.EqualFunc(got, l, same) {
		t.Fatalf("%s: List = %+v, want %+v", what, got, l)
	}
	if n := c.Next(); n != next {
		t.Fatalf("%s: Next = %d, want %d", what, n, next)
	}
	for _, x := range l {
		y, e := c.Get(x.Name)
		told(t, what+": Get", y, e, x, api.OK)
		y, e = c.ByID(x.ID)
		told(t, what+": ByID", y, e, x, api.OK)
	}
}
