package expr_test

import (
	"strings"
	"testing"

	"confluence/api"
	"confluence/expr"
)

func TestX2Examples(t *testing.T) {
	wantPrint(t, "1+2*x", "1 + 2 * x", "(1+2)*x", "(1 + 2) * x", "a-(b-c)-d", "a - (b - c) - d", "not a=b", "not a = b", "-5", "-5", "- x", "-(x)", "-(5)", "-(5)")
	wantSame(t, "x is not null", "x not in (1, 2)", "x not between 1 and 2", "case when a then b else c end")
}

// leaves are the names a, b, c and so on, as parts of a form.
func leaves(f *form) *node {
	x := &node{form: f}
	for i := range f.wants {
		x.parts = append(x.parts, nameOf(string(rune('a'+i))))
	}
	return x
}

// TestX2EachInEach: each form as each part of each other one: which brackets there are, and that none of them is too many.
func TestX2EachInEach(t *testing.T) {
	for i := range forms {
		for place := range forms[i].wants {
			for k := range forms {
				outer, inner := leaves(&forms[i]), leaves(&forms[k])
				outer.parts[place] = inner
				needed := inner.form.level < outer.form.wants[place]
				want := outer.printed()
				wantPrint(t, outer.bracketed(), want, want, want)
				if strings.Contains(want, "("+inner.printed()+")") != (needed || enclosed(outer.form, place)) {
					t.Errorf("%s: the brackets of %s", want, inner.printed())
				}
				if bare := outer.filled(func(x *node, _ int) string { return x.printed() }); needed {
					wantOther(t, bare, want)
				} else {
					wantPrint(t, bare, want)
				}
			}
		}
	}
}

// enclosed tells whether a form has brackets of its own around that part alone.
func enclosed(f *form, place int) bool {
	l := strings.Split(f.text, "#")
	return strings.HasSuffix(l[place], "(") && strings.HasPrefix(l[place+1], ")")
}

// wantOther: a text without brackets that are needed is no expression, or another one.
func wantOther(t *testing.T, bare, want string) {
	t.Helper()
	if e, f, _ := expr.Parse(bare); f == api.OK && e.Print() == want {
		t.Errorf("%s is printed with brackets that are not needed: %s", bare, want)
	}
}

// TestX2Leaves: names and literals need no brackets anywhere.
func TestX2Leaves(t *testing.T) {
	l := []string{"a", "length", "5", "0", "-5", "-9223372036854775808", "''", "'a b'", "'it''s'", "'\\00'", "null", "true", "false"}
	for i := range forms {
		for _, a := range l {
			for _, b := range l {
				x := leaves(&forms[i])
				for k := range x.parts {
					x.parts[k] = nameOf([]string{a, b}[k%2])
				}
				wantPrint(t, x.bracketed(), x.printed(), x.printed(), x.printed())
			}
		}
	}
}

// TestX2ThreeDeep: each operator within two others, from both sides.
func TestX2ThreeDeep(t *testing.T) {
	var l []*form
	for i := range forms {
		if len(forms[i].wants) <= 2 && forms[i].level < 9 {
			l = append(l, &forms[i])
		}
	}
	for _, a := range l {
		for _, b := range l {
			for _, c := range l {
				for side := range 4 {
					x, y, z := leaves(a), leaves(b), leaves(c)
					y.parts[min(side/2, len(y.parts)-1)] = z
					x.parts[min(side%2, len(x.parts)-1)] = y
					wantPrint(t, x.bracketed(), x.printed(), x.printed(), x.printed())
				}
			}
		}
	}
}

func TestX2Rows(t *testing.T) {
	for _, o := range []string{"or", "and", "||", "+", "-", "*", "/", "%"} {
		o = " " + o + " "
		wantPrint(t, "(a"+o+"b)"+o+"c", "a"+o+"b"+o+"c", "a"+o+"(b"+o+"c)", "a"+o+"(b"+o+"c)", "((a"+o+"b)"+o+"c)"+o+"d", "a"+o+"b"+o+"c"+o+"d", "a"+o+"(b"+o+"(c"+o+"d))", "a"+o+"(b"+o+"(c"+o+"d))", "(a"+o+"b)"+o+"(c"+o+"d)", "a"+o+"b"+o+"(c"+o+"d)")
	}
	wantPrint(t, "a + b - c", "a + b - c", "a + (b - c)", "a + (b - c)", "(a - b) + c", "a - b + c", "a * b / c % d", "a * b / c % d", "a * (b / c)", "a * (b / c)", "(a * b) + (c * d)", "a * b + c * d", "(a + b) * (c + d)", "(a + b) * (c + d)", "(a || b) + c", "(a || b) + c", "a || (b + c)", "a || b + c")
}

// TestX2Between: the `and` within it is its own, the next one is not.
func TestX2Between(t *testing.T) {
	wantSame(t, "a between b and c and d", "a and b between c and d", "a between b and c and d between e and f", "a not between b and c and d", "a between b and (c and d)", "a between (b and c) and d", "not a between b and c and d", "a between b and c or d", "(a between b and c) = d", "a in (b between c and d and e)", "a between b || c and d || e and f")
	wantPrint(t, "(a between b and c) and d", "a between b and c and d", "a and (b between c and d)", "a and b between c and d", "not (a between b and c)", "not a between b and c", "a between (b) and (c || d)", "a between b and c || d")
	e := parsed(t, "7 between 1 and 9 and false")
	if v, _ := e.Eval(api.Table{}, nil); v != no {
		t.Errorf("%s is %+v", e.Print(), v)
	}
}

func TestX2Lists(t *testing.T) {
	wantSame(t, "a in (b or c, d and e, not f, g = h)", "coalesce(a or b, c)", "substr(a || b, c + d, e * f)", "case when a or b then c or d when not e then f = g else h and i end", "abs(case when a then b end)", "case when case when a then b end then c else case when d then e end end", "length(a in (b))", "least(a, least(b, c), d)")
	wantPrint(t, "a in ((b),(c or d))", "a in (b, c or d)", "abs((a))", "abs(a)", "case when (a) then (b) else (c) end", "case when a then b else c end", "-(a or b)", "-(a or b)", "-((a))", "-(a)", "(case when a then b end)", "case when a then b end", "(abs(a))", "abs(a)", "(-5)", "-5", "(-a) * b", "-(a) * b", "-(a) - -(b)", "-(a) - -(b)")
}

// TestX2Random: whichever way it was written.
func TestX2Random(t *testing.T) {
	g := seeded(121, 4)
	deepest := 0
	for range 10000 {
		x := g.expression()
		deepest = max(deepest, x.depth())
		wantPrint(t, x.printed(), x.printed(), x.bracketed(), x.printed(), "("+x.bracketed()+")", x.printed(), g.spaced(x.printed()), x.printed())
	}
	if deepest < 6 {
		t.Errorf("the deepest is %d deep", deepest)
	}
}

// TestX2Long: what is printed may be longer than what may be read.
func TestX2Long(t *testing.T) {
	e := parsed(t, "abs("+strings.TrimPrefix(strings.Repeat("+a", 18), "+")+")+coalesce("+strings.TrimPrefix(strings.Repeat(",a", 160), ",")+")")
	want := "abs(" + strings.TrimPrefix(strings.Repeat(" + a", 18), " + ") + ") + coalesce(" + strings.TrimPrefix(strings.Repeat(", a", 160), ", ") + ")"
	if p := e.Print(); p != want || len(p) <= api.MaxExpr {
		t.Errorf("printed as %s", p)
	}
}
