package expr_test

import (
	"math"
	"testing"

	"confluence/api"
	"confluence/expr"
)

// some is a part of each kind: names, literals, what they make.
var some = map[int][]string{
	api.Null: {"null", "nullif(null, a)", "coalesce(null, null)", "case when p then null end"},
	api.Int:  {"a", "5", "b + null", "abs(null)", "coalesce(null, a)"},
	api.Text: {"s", "'x'", "null || null", "upper(u)", "nullif(s, null)"},
	api.Bool: {"p", "true", "not null", "null = null", "a is null", "null in (null)"},
}

// TestX4Signatures: each operator and each function, with parts of each kind, and with null.
func TestX4Signatures(t *testing.T) {
	for i := range forms {
		f := &forms[i]
		kinds := make([]int, len(f.takes))
		for n := range int(math.Pow(4, float64(len(kinds)))) {
			x := &node{form: f}
			for k := range kinds {
				kinds[k] = n >> (2 * k) & 3
				x.parts = append(x.parts, nameOf(some[kinds[k]][(n+k)%len(some[kinds[k]])]))
			}
			kind, why := f.kind(kinds)
			wantKind(t, x.bracketed(), things, kind, why)
		}
	}
}

// TestX4ByHand: what the rule above says, written down.
func TestX4ByHand(t *testing.T) {
	for s, want := range map[string]int{
		"null": api.Null, "5": api.Int, "-5": api.Int, "''": api.Text, "true": api.Bool, "a": api.Int, "s": api.Text, "p": api.Bool,
		"p or q": api.Bool, "null or null": api.Bool, "p and null": api.Bool, "not p": api.Bool, "not null": api.Bool,
		"a = b": api.Bool, "s < u": api.Bool, "p >= q": api.Bool, "null <> null": api.Bool, "a = null": api.Bool, "null = s": api.Bool,
		"a is null": api.Bool, "s is not null": api.Bool, "null is null": api.Bool, "(a = 1) is null": api.Bool,
		"a in (1, null, b)": api.Bool, "null in (1, 2)": api.Bool, "null not in (null)": api.Bool, "p in (true)": api.Bool, "a between null and 2": api.Bool, "null between null and s": api.Bool,
		"s like u": api.Bool, "null like null": api.Bool, "s not like null": api.Bool,
		"s || u": api.Text, "null || null": api.Text, "a + b": api.Int, "null * null": api.Int, "null % a": api.Int, "-(null)": api.Int, "-(a)": api.Int,
		"length(s)": api.Int, "length(null)": api.Int, "abs(a)": api.Int, "abs(null)": api.Int, "upper(s)": api.Text, "lower(null)": api.Text,
		"nullif(a, b)": api.Int, "nullif(a, null)": api.Int, "nullif(null, a)": api.Null, "nullif(null, null)": api.Null, "nullif(p, q)": api.Bool,
		"substr(s, 1, 2)": api.Text, "substr(null, null, null)": api.Text, "substr(null, a, null)": api.Text,
		"coalesce(a)": api.Int, "coalesce(null)": api.Null, "coalesce(null, s, null)": api.Text, "greatest(p, null)": api.Bool, "greatest(null, null)": api.Null, "least(null, 5)": api.Int,
		"case when p then 1 end": api.Int, "case when null then null end": api.Null, "case when p then null else s end": api.Text, "case when p then null when q then true end": api.Bool, "case when p then 1 else null end": api.Int,
	} {
		wantKind(t, s, things, want, api.OK)
	}
	for _, s := range []string{
		"a or p", "p or s", "a and a", "p and 1", "not a", "not ''", "a = s", "p = 1", "s <> p", "a < 'x'", "a in (s)", "a in (1, 2, 'x')", "null in (1, 'x')", "p in (p, p, 1)", "a between 1 and s", "s between 1 and 2", "null between 1 and s", "a between p and 1",
		"a like s", "s like a", "null like 1", "p like s", "s || a", "p || s", "null || 1", "a + s", "s - a", "p * 1", "a / p", "null % s", "-(s)", "-(p)", "length(a)", "length(p)", "abs(s)", "abs(true)", "upper(1)", "lower(p)",
		"nullif(a, s)", "nullif(p, 1)", "substr(a, 1, 2)", "substr(s, s, 2)", "substr(s, 1, s)", "substr(s, p, 2)", "substr(null, null, s)", "substr(p, 1, 1)", "coalesce(a, s)", "coalesce(null, a, null, s)", "greatest(a, p)", "greatest(null, 1, 'x')", "least(s, null, 1)",
		"case when a then 1 end", "case when s then 1 end", "case when p then 1 when a then 2 end", "case when p then 1 else s end", "case when p then 1 when q then s end", "case when p then null when q then 1 else s end",
		"a + (b + s)", "(p or a) is null", "not (a + p)",
	} {
		wantKind(t, s, things, 0, api.ErrExprKind)
	}
}

// TestX4Names: a column that there is not is told, where nothing ahead of it is wrong.
func TestX4Names(t *testing.T) {
	for _, s := range []string{
		"none", "aa", "a_", "none + 1", "a + none", "s + none", "none + s", "not none", "a or none", "none is null", "a in (s, none)", "a in (1, none, s)", "s between p and none", "a like none", "case when a then none end", "case when p then 1 else none end", "case when a then s when p then none else 1 end", "coalesce(a, s, none)", "substr(a, s, none)", "abs(abs(none))", "-(none)", "nullif(p, none)", "none || (a + s)", "s + (a + none)", "id", "length",
	} {
		wantKind(t, s, things, 0, api.ErrExprName)
	}
	for _, s := range []string{"(a + s) || none", "not a and none", "(s + 1) + none", "coalesce(a, not a, none)", "case when p then a + s else none end", "abs(s) + none", "a + (p + 1) + none", "(s + s) in (none)"} {
		wantKind(t, s, things, 0, api.ErrExprKind)
	}
	wantKind(t, "a", api.Table{}, 0, api.ErrExprName)
	wantKind(t, "1 + 1", api.Table{}, api.Int, api.OK)
	for _, c := range []string{"", "A", "a ", " a", "aa", "b"} {
		wantKind(t, "a", api.Table{Columns: []api.Column{{Name: c, Kind: api.Int}}}, 0, api.ErrExprName)
	}
}

// TestX4ColumnsOfOtherKinds: told where the column is spoken of, and nowhere else.
func TestX4ColumnsOfOtherKinds(t *testing.T) {
	for _, kind := range []int{api.Null, 4, 5, -1, 256, 257, math.MaxInt, math.MinInt} {
		odd := api.Table{Columns: []api.Column{{Name: "x", Kind: kind}, {Name: "a", Kind: api.Int}, {Name: "y", Kind: kind, Null: true}}}
		for _, s := range []string{"x", "y", "x is null", "not x", "x = x", "x = null", "coalesce(x)", "coalesce(null, x)", "a + x", "case when x then 1 end", "case when true then x end", "x + none", "x in (none)", "nullif(x, 1)", "nullif(null, x)"} {
			wantKind(t, s, odd, 0, api.ErrExprKind)
		}
		wantKind(t, "none + x", odd, 0, api.ErrExprName)
		wantKind(t, "a + 1", odd, api.Int, api.OK)
		wantKind(t, "1 = 1", odd, api.Bool, api.OK)
	}
}

// TestX4TwoColumnsOfOneName: the first one holds.
func TestX4TwoColumnsOfOneName(t *testing.T) {
	twice := api.Table{Columns: []api.Column{{Name: "z", Kind: api.Bool}, {Name: "x", Kind: api.Text}, {Name: "x", Kind: api.Int}, {Name: "z", Kind: 9}}}
	wantKind(t, "x", twice, api.Text, api.OK)
	wantKind(t, "x + 1", twice, 0, api.ErrExprKind)
	wantKind(t, "x || 'a'", twice, api.Text, api.OK)
	wantKind(t, "z", twice, api.Bool, api.OK)
	odd := api.Table{Columns: []api.Column{{Name: "x", Kind: 9}, {Name: "x", Kind: api.Int}}}
	wantKind(t, "x", odd, 0, api.ErrExprKind)
}

// TestX4OnlyColumns: whether the table is right otherwise, nobody asks.
func TestX4OnlyColumns(t *testing.T) {
	for _, in := range []api.Table{{}, {ID: -1, Version: 0, Name: "?", Key: 77}, things, {ID: math.MaxInt, Key: -1}} {
		in.Columns = things.Columns
		wantKind(t, "a + b", in, api.Int, api.OK)
		wantKind(t, "none", in, 0, api.ErrExprName)
	}
	var many []api.Column
	for range 1000 {
		many = append(many, api.Column{Name: "y", Kind: api.Int})
	}
	wantKind(t, "x || y", api.Table{Columns: append(many, api.Column{Name: "x", Kind: api.Text})}, 0, api.ErrExprKind)
	wantKind(t, "x || x", api.Table{Columns: append(many, api.Column{Name: "x", Kind: api.Text})}, api.Text, api.OK)
}

func TestX4Random(t *testing.T) {
	g := seeded(141, 6)
	count := map[api.Errno]int{}
	for range 20000 {
		x := g.expression()
		kind, why := x.check(things.Columns)
		count[why]++
		e, _, _ := expr.Parse(x.bracketed())
		if k, f := e.Check(things); k != kind || f != why {
			t.Fatalf("%s is of the kind %d, %d, want %d, %d", x.printed(), k, f, kind, why)
		}
	}
	if count[api.OK] < 2000 || count[api.ErrExprKind] < 500 || count[api.ErrExprName] < 50 {
		t.Errorf("they were %v", count)
	}
}
