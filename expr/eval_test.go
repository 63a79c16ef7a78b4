package expr_test

import (
	"math"
	"slices"
	"strings"
	"testing"

	"confluence/api"
	"confluence/expr"
	"confluence/value"
)

func TestX5Examples(t *testing.T) {
	wantValue(t, "null and false", no)
	wantValue(t, "null or 1 = 1", yes)
	wantValue(t, "1 in (2, null)", null)
	wantError(t, "1 / 0", api.ErrExprZero)
	wantValue(t, "false and 1 / 0 = 1", no)
	wantValue(t, "'abc' like 'a%c'", yes)
	wantValue(t, "coalesce(null, 2, 1 / 0)", number(2))
}

func TestX5Leaves(t *testing.T) {
	for s, want := range map[string]api.Value{
		"null": null, "true": yes, "false": no, "0": number(0), "5": number(5), "-5": number(-5), "-0": number(0), "9223372036854775807": number(math.MaxInt), "-9223372036854775808": number(math.MinInt), "''": text(""), "'it''s\\00\\ff'": text("it's\x00\xff"),
		"a": number(7), "b": null, "s": text("abc"), "u": null, "p": yes, "q": null, "most": number(math.MaxInt), "fewest": number(math.MinInt), "'" + full + "'": text(full),
	} {
		wantValue(t, s, want)
	}
}

// TestX5WrongRows: what Check says comes first, then how long the row is, then what its values are.
func TestX5WrongRows(t *testing.T) {
	bad := slices.Clone(row)
	bad[0] = text("x")
	for _, c := range []struct {
		s    string
		r    api.Row
		want api.Errno
	}{
		{"a + 1", row, api.OK}, {"a + 1", row[:7], api.ErrArg}, {"a + 1", append(slices.Clone(row), null), api.ErrArg}, {"a + 1", nil, api.ErrArg}, {"a + 1", slices.Repeat(row, 50), api.ErrArg}, {"1", row[:7], api.ErrArg}, {"1", nil, api.ErrArg}, {"1", row, api.OK},
		{"a + s", row[:7], api.ErrExprKind}, {"none", nil, api.ErrExprName}, {"none", bad, api.ErrExprName}, {"a + 1", bad[:7], api.ErrArg}, {"a + 1", bad, api.ErrExprKind}, {"s", bad, api.OK}, {"1 / 0", nil, api.ErrArg}, {"1 / 0", bad, api.ErrExprZero}, {"1 / 0 + a", bad, api.ErrExprKind}, {"a + s", bad, api.ErrExprKind},
	} {
		if v, e := parsed(t, c.s).Eval(things, c.r); e != c.want || e != api.OK && v != null {
			t.Errorf("%s over %d values: %+v, %d, want %d", c.s, len(c.r), v, e, c.want)
		}
	}
	if v, e := parsed(t, "1 + 1").Eval(api.Table{}, nil); v != number(2) || e != api.OK {
		t.Errorf("over no columns: %+v, %d", v, e)
	}
	if v, e := parsed(t, "1 + 1").Eval(api.Table{}, api.Row{null}); v != null || e != api.ErrArg {
		t.Errorf("a value and no column: %+v, %d", v, e)
	}
}

// anyValues are right ones of each kind, and such as are not right.
var anyValues = []api.Value{
	null, number(0), number(math.MinInt), text(""), text(full), yes, no,
	{Kind: api.Null, N: 1}, {Kind: api.Null, S: "x"}, {Kind: api.Int, S: "x"}, {Kind: api.Text, N: 1, S: "x"}, {Kind: api.Bool, N: 2}, {Kind: api.Bool, N: -1}, {Kind: api.Bool, S: "x"}, {Kind: 4}, {Kind: -1}, {Kind: 257}, text(full + "x"), {Kind: api.Text, N: 1, S: full + "x"},
}

// TestX5WrongValues: of a column that is spoken of, wherever that is, also where it is not worked out; null may stand in each.
func TestX5WrongValues(t *testing.T) {
	for kind, texts := range map[int][]string{
		api.Int:  {"x", "x + 1", "x is null", "false and x = 1", "true or x = 1", "coalesce(1, x)", "case when true then 1 else x end", "1 in (1, x)", "1 / 0 + x", "not (x = x)"},
		api.Text: {"x", "x || 'a'", "x is null", "false and x = 'a'", "coalesce('a', x)", "case when false then x end", "length(x)", "x like '%'"},
		api.Bool: {"x", "not x", "x is null", "false and x", "true or x", "coalesce(true, x)", "case when x then 1 end", "x = true"},
	} {
		for _, mayBeNull := range []bool{false, true} {
			in := api.Table{Columns: []api.Column{{Name: "y", Kind: api.Int}, {Name: "x", Kind: kind, Null: mayBeNull}, {Name: "z", Kind: api.Int}}}
			for _, v := range anyValues {
				c := api.Column{Kind: kind, Null: true}
				right := value.Fits(v, c) == api.OK
				for _, s := range texts {
					_, e := parsed(t, s).Eval(in, api.Row{{Kind: 9}, v, {Kind: 8}})
					if right && (e == api.ErrExprKind || e == api.ErrArg) || !right && e != api.ErrExprKind {
						t.Errorf("%s over %.40v in a column of %d: %d", s, v, kind, e)
					}
				}
			}
		}
	}
}

// TestX5OtherValues: of a column that is not spoken of, anything may stand there.
func TestX5OtherValues(t *testing.T) {
	for _, v := range anyValues {
		for _, s := range []string{"x + 1", "x + 1 + x", "case when x = 1 then x + 1 else 0 end"} {
			in := api.Table{Columns: []api.Column{{Name: "y", Kind: api.Bool}, {Name: "x", Kind: api.Int}, {Name: "x", Kind: api.Text}, {Name: "odd", Kind: 77}}}
			e := parsed(t, s)
			want := map[string]int{"x + 1": 2, "x + 1 + x": 3, "case when x = 1 then x + 1 else 0 end": 2}[s]
			if got, f := e.Eval(in, api.Row{v, number(1), v, v}); got != number(want) || f != api.OK {
				t.Errorf("%s beside %.40v: %+v, %d", s, v, got, f)
			}
		}
	}
}

// TestX5TwoColumnsOfOneName: the first one holds, with its value.
func TestX5TwoColumnsOfOneName(t *testing.T) {
	in := api.Table{Columns: []api.Column{{Name: "x", Kind: api.Int}, {Name: "x", Kind: api.Int}, {Name: "y", Kind: api.Text}, {Name: "y", Kind: api.Int}}}
	if v, e := parsed(t, "x * 10").Eval(in, api.Row{number(1), number(2), null, null}); v != number(10) || e != api.OK {
		t.Errorf("x is %+v, %d", v, e)
	}
	if v, e := parsed(t, "y || ''").Eval(in, api.Row{null, null, text("a"), number(3)}); v != text("a") || e != api.OK {
		t.Errorf("y is %+v, %d", v, e)
	}
}

// TestX5ThreeAnswers: all of `and`, `or`, `not`, by the chapter's words, of literals and of what is worked out.
func TestX5ThreeAnswers(t *testing.T) {
	for _, c := range []struct {
		a, b    string
		and, or api.Value
	}{
		{"true", "true", yes, yes}, {"true", "false", no, yes}, {"true", "null", null, yes},
		{"false", "true", no, yes}, {"false", "false", no, no}, {"false", "null", no, null},
		{"null", "true", null, yes}, {"null", "false", no, null}, {"null", "null", null, null},
	} {
		wantValue(t, c.a+" and "+c.b, c.and)
		wantValue(t, c.a+" or "+c.b, c.or)
		wantValue(t, "(not not "+c.a+") and ("+c.b+" = true)", c.and)
		wantValue(t, "("+c.a+" = true) or not not "+c.b, c.or)
		wantValue(t, c.a+" and true and "+c.b, c.and)
		wantValue(t, c.a+" or false or "+c.b, c.or)
	}
	wantValue(t, "not true", no)
	wantValue(t, "not false", yes)
	wantValue(t, "not null", null)
	wantValue(t, "not q", null)
	wantValue(t, "not not null", null)
}

// TestX5Nulls: what is null where one part is, and what is not.
func TestX5Nulls(t *testing.T) {
	for i := range forms {
		f := &forms[i]
		switch word := strings.Fields(strings.NewReplacer("#", " ", "(", " ( ").Replace(f.text)); {
		case word[0] == "or", word[0] == "and", word[0] == "is", word[0] == "in", word[0] == "case", word[0] == "coalesce", word[0] == "nullif", strings.Contains(f.text, "between"), strings.Contains(f.text, " in "):
			continue // those have rules of their own
		}
		for k := range f.takes {
			x := &node{form: f}
			for j := range f.takes {
				part := map[byte]string{'B': "p", 'I': "a", 'T': "s", 'x': "a"}[f.takes[j]]
				if j == k {
					part = "null"
				}
				x.parts = append(x.parts, nameOf(part))
			}
			wantValue(t, x.printed(), null)
		}
	}
	for _, s := range []string{"null / 0", "1 / null", "b % 0", "substr(null, 0, -1)", "substr(s, 0, null)", "substr(s, null, -1)", "u || s", "'" + full + "' || null", "null like '%'", "s like null", "null = null", "null <> null", "abs(null)", "-(b)", "greatest(1, null, 2)", "least(null)", "length(u)", "upper(u)", "lower(null)", "s not like null"} {
		wantValue(t, s, null)
	}
	wantValue(t, "null is null", yes)
	wantValue(t, "null is not null", no)
	wantValue(t, "a is null", no)
	wantValue(t, "a is not null", yes)
	wantValue(t, "(1 = null) is null", yes)
	wantValue(t, "'' is null", no)
	wantValue(t, "0 is null", no)
	wantValue(t, "false is null", no)
}

func TestX5In(t *testing.T) {
	for s, want := range map[string]api.Value{
		"1 in (1)": yes, "1 in (2)": no, "1 in (2, 1)": yes, "1 in (2, 3, 4)": no, "1 in (null)": null, "1 in (null, 1)": yes, "1 in (1, null)": yes, "1 in (2, null, 3)": null, "1 in (null, null)": null,
		"null in (1)": null, "null in (null)": null, "null in (1, null)": null, "b in (1 / 0)": null, "null in (1, 1 / 0)": null,
		"1 in (1, 1 / 0)": yes, "1 in (null, 1, 1 / 0)": yes, "'a' in ('b', 'a')": yes, "'a' in ('A', 'a ', '')": no, "true in (false, true)": yes, "false in (null, true)": null, "a in (7)": yes, "a in (a - 1, a)": yes,
	} {
		wantValue(t, s, want)
		negated := map[api.Value]api.Value{yes: no, no: yes, null: null}[want]
		wantValue(t, strings.Replace(s, " in ", " not in ", 1), negated)
		wantValue(t, "not "+s, negated)
	}
	for _, not := range []string{"", "not "} {
		wantError(t, "1 "+not+"in (1 / 0)", api.ErrExprZero)
		wantError(t, "1 "+not+"in (2, 1 / 0, 1)", api.ErrExprZero)
		wantError(t, "1 "+not+"in (null, "+far+")", api.ErrExprRange)
		wantError(t, zero+" "+not+"in ("+far+")", api.ErrExprZero)
		wantError(t, "1 "+not+"in ("+far+", "+zero+")", api.ErrExprRange)
	}
}

func TestX5Between(t *testing.T) {
	for s, want := range map[string]api.Value{
		"5 between 1 and 9": yes, "5 between 5 and 5": yes, "5 between 5 and 9": yes, "5 between 1 and 5": yes, "5 between 6 and 9": no, "5 between 1 and 4": no, "5 between 9 and 1": no, "4 between 5 and 5": no, "6 between 5 and 5": no,
		"null between 1 and 9": null, "null between null and null": null, "5 between null and 9": null, "5 between null and 5": null, "5 between null and 4": no, "5 between 1 and null": null, "5 between 6 and null": no, "5 between null and null": null, "null between 9 and 1": null,
		"'b' between 'a' and 'c'": yes, "'ab' between 'a' and 'b'": yes, "'' between 'a' and 'b'": no, "true between false and true": yes, "false between true and true": no, "a between 7 and most": yes, "fewest between fewest and -1": yes,
	} {
		wantValue(t, s, want)
		negated := map[api.Value]api.Value{yes: no, no: yes, null: null}[want]
		wantValue(t, strings.Replace(s, " between ", " not between ", 1), negated)
		wantValue(t, "not "+s, negated)
	}
	for _, not := range []string{"", "not "} { // all its parts are worked out, whatever the first ones say
		wantError(t, "1 "+not+"between 2 and "+zero, api.ErrExprZero)
		wantError(t, "null "+not+"between null and "+zero, api.ErrExprZero)
		wantError(t, "null "+not+"between "+far+" and "+zero, api.ErrExprRange)
		wantError(t, zero+" "+not+"between "+far+" and 1", api.ErrExprZero)
	}
}

func TestX5Comparisons(t *testing.T) {
	rising := []string{"-9223372036854775808", "-256", "-1", "0", "1", "255", "9223372036854775807"}
	for _, l := range [][]string{rising, {"false", "true"}, {"''", "'\\00'", "' '", "'A'", "'a'", "'a\\00'", "'aa'", "'ab'", "'b'", "'\\7f'", "'\\80'", "'\\ff'"}} {
		for i, a := range l {
			for k, b := range l {
				wantValue(t, a+" = "+b, logic(i == k))
				wantValue(t, a+" <> "+b, logic(i != k))
				wantValue(t, a+" < "+b, logic(i < k))
				wantValue(t, a+" <= "+b, logic(i <= k))
				wantValue(t, a+" > "+b, logic(i > k))
				wantValue(t, a+" >= "+b, logic(i >= k))
				v, _ := value.Parse(l[max(i, k)])
				wantValue(t, "greatest("+a+", "+b+")", v)
				wantValue(t, "greatest("+a+", "+b+", "+l[0]+")", v)
				w, _ := value.Parse(l[min(i, k)])
				wantValue(t, "least("+a+", "+b+")", w)
				wantValue(t, "least("+l[len(l)-1]+", "+a+", "+b+")", w)
				wantValue(t, "nullif("+a+", "+b+") is null", logic(i == k))
			}
		}
	}
}

func TestX5Case(t *testing.T) {
	for s, want := range map[string]api.Value{
		"case when true then 1 end": number(1), "case when false then 1 end": null, "case when null then 1 end": null, "case when false then 1 else 2 end": number(2), "case when null then 1 else 2 end": number(2), "case when true then 1 else 2 end": number(1), "case when true then null else 2 end": null, "case when false then 1 else null end": null,
		"case when false then 1 when true then 2 end": number(2), "case when true then 1 when true then 2 end": number(1), "case when null then 1 when false then 2 when null then 3 end": null, "case when null then 1 when false then 2 when true then 3 else 4 end": number(3),
		"case when true then 1 when 1 / 0 = 1 then 2 else 1 / 0 end": number(1), "case when false then 1 / 0 when true then 2 else 1 / 0 end": number(2), "case when false then 1 / 0 else 3 end": number(3), "case when null then 'x' when p then 'y' else 'z' end": text("y"), "case when false then true else null end": null,
	} {
		wantValue(t, s, want)
	}
	wantError(t, "case when 1 / 0 = 1 then 1 end", api.ErrExprZero)
	wantError(t, "case when false then 1 when 1 / 0 = 1 then 2 else 3 end", api.ErrExprZero)
	wantError(t, "case when true then 1 / 0 end", api.ErrExprZero)
	wantError(t, "case when false then 1 else 1 / 0 end", api.ErrExprZero)
	wantError(t, "case when "+far+" = 1 then 1 / 0 end", api.ErrExprRange)
}

func TestX5CoalesceNullif(t *testing.T) {
	for s, want := range map[string]api.Value{
		"coalesce(1)": number(1), "coalesce(null)": null, "coalesce(null, null, null)": null, "coalesce(null, 2)": number(2), "coalesce(1, 2)": number(1), "coalesce(b, null, a, 5)": number(7), "coalesce(1, 1 / 0)": number(1), "coalesce(null, 2, 1 / 0)": number(2), "coalesce(false, true)": no, "coalesce('', 'a')": text(""), "coalesce(0, 1)": number(0),
		"nullif(1, 1)": null, "nullif(1, 2)": number(1), "nullif(null, 1)": null, "nullif(1, null)": number(1), "nullif(null, null)": null, "nullif('a', 'A')": text("a"), "nullif(true, true)": null, "nullif(false, true)": no, "nullif('', '')": null,
	} {
		wantValue(t, s, want)
	}
	wantError(t, "coalesce(1 / 0, 1)", api.ErrExprZero)
	wantError(t, "coalesce(null, 1 / 0, 1)", api.ErrExprZero)
	wantError(t, "coalesce(null, "+far+", 1 / 0)", api.ErrExprRange)
	wantError(t, "nullif(null, 1 / 0)", api.ErrExprZero)
	wantError(t, "nullif(1, 1 / 0)", api.ErrExprZero)
	wantError(t, "nullif("+far+", 1 / 0)", api.ErrExprRange)
}

// TestX5WhichParts: `and` and `or` look at their second part only if they must.
func TestX5WhichParts(t *testing.T) {
	wantValue(t, "false and 1 / 0 = 1", no)
	wantValue(t, "true or 1 / 0 = 1", yes)
	wantError(t, "true and 1 / 0 = 1", api.ErrExprZero)
	wantError(t, "null and 1 / 0 = 1", api.ErrExprZero)
	wantError(t, "false or 1 / 0 = 1", api.ErrExprZero)
	wantError(t, "null or 1 / 0 = 1", api.ErrExprZero)
	wantError(t, "1 / 0 = 1 and false", api.ErrExprZero)
	wantError(t, "1 / 0 = 1 or true", api.ErrExprZero)
	wantError(t, "1 / 0 = 1 and "+far+" = 1", api.ErrExprZero)
	wantError(t, far+" = 1 or 1 / 0 = 1", api.ErrExprRange)
	wantValue(t, "null and false and 1 / 0 = 1", no)
	wantValue(t, "null or true or 1 / 0 = 1", yes)
	wantValue(t, "true and (false and 1 / 0 = 1)", no)
	wantError(t, "not (1 / 0 = 1)", api.ErrExprZero)
	wantError(t, "(1 / 0) is null", api.ErrExprZero)
	wantError(t, "(1 / 0) is not null", api.ErrExprZero)
}

// TestX5FirstError: what works out all its parts does so from the left, nulls or not; the first error is the answer.
func TestX5FirstError(t *testing.T) {
	wrong := map[byte][2]string{'B': {"(1 / 0 = 1)", "(" + far + " = 1)"}, 'I': {"(1 / 0)", "(" + far + ")"}, 'T': {"substr(s, 1 / 0, 1)", "substr(s, 0, 1)"}, 'x': {"(1 / 0)", "(" + far + ")"}, '?': {"(1 / 0)", "(" + far + ")"}}
	right := map[byte]string{'B': "p", 'I': "a", 'T': "s", 'x': "a", '?': "a"}
	for i := range forms {
		f := &forms[i]
		switch f.text {
		case "# or #", "# and #", "coalesce(#)", "coalesce(#, #, #)", "# in (#)", "# in (#, #, #)", "# not in (#)", "# not in (#, #)":
			continue
		}
		if strings.HasPrefix(f.text, "case") {
			continue
		}
		for first := range f.takes {
			for turn := range 2 { // which error comes first
				for _, ahead := range []string{"null", ""} {
					x := &node{form: f}
					for k := range f.takes {
						part := ahead
						switch {
						case k == first:
							part = wrong[f.takes[k]][turn]
						case k > first:
							part = wrong[f.takes[k]][1-turn]
						case part == "":
							part = right[f.takes[k]]
						}
						x.parts = append(x.parts, nameOf(part))
					}
					wantError(t, x.printed(), []api.Errno{api.ErrExprZero, api.ErrExprRange}[turn])
				}
			}
		}
	}
	wantError(t, "1 / 0 / 0 + "+far, api.ErrExprZero)
	wantError(t, far+" + 1 / 0", api.ErrExprRange)
	wantError(t, "null + 1 / 0", api.ErrExprZero)
}

// TestX5Random: whole expressions over random rows.
func TestX5Random(t *testing.T) {
	g := seeded(151, 0)
	count := map[api.Errno]int{}
	nulls := 0
	for range 30000 {
		x, r := g.expression(), g.row()
		want := x.eval(things.Columns, r)
		count[want.e]++
		if want == known(null) {
			nulls++
		}
		e, _, _ := expr.Parse(x.printed())
		if v, f := e.Eval(things, r); v != want.v || f != want.e {
			t.Fatalf("%s over %+v is %+v, %d, want %+v, %d", x.printed(), r, v, f, want.v, want.e)
		}
	}
	if count[api.OK]-nulls < 8000 || nulls < 3000 || count[api.ErrExprRange] < 1000 || count[api.ErrExprZero] < 100 {
		t.Errorf("they were %v, of them null %d", count, nulls)
	}
}
