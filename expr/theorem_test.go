package expr_test

import (
	"slices"
	"testing"

	"confluence/api"
	"confluence/expr"
)

// wantAlike: two expressions of which nobody can tell which is which.
func wantAlike(t *testing.T, a, b *expr.Expr, g garden) {
	t.Helper()
	if a.Print() != b.Print() || !slices.Equal(a.Names(), b.Names()) {
		t.Fatalf("%s with %q, and %s with %q", a.Print(), a.Names(), b.Print(), b.Names())
	}
	for _, in := range []api.Table{things, {}, {Columns: things.Columns[:3]}, {Columns: slices.Concat(things.Columns[4:], things.Columns[:4])}} {
		k, e := a.Check(in)
		if l, f := b.Check(in); k != l || e != f {
			t.Fatalf("%s is of %d, %d, and %d, %d", a.Print(), k, e, l, f)
		}
		for range 3 {
			r := g.row()
			if len(in.Columns) == 3 {
				r = r[:3]
			}
			v, e := a.Eval(in, r)
			if w, f := b.Eval(in, r); v != w || e != f {
				t.Fatalf("%s over %+v is %+v, %d, and %+v, %d", a.Print(), r, v, e, w, f)
			}
		}
	}
}

// TestX6PrintedAndRead: random expressions, right and wrong ones, written in several ways.
func TestX6PrintedAndRead(t *testing.T) {
	g := seeded(161, 5)
	for range 3000 {
		x := g.expression()
		e := parsed(t, x.bracketed())
		wantAlike(t, e, parsed(t, e.Print()), g)
		wantAlike(t, e, parsed(t, x.printed()), g)
		wantAlike(t, e, parsed(t, g.spaced(e.Print())), g)
		wantAlike(t, e, parsed(t, g.spaced(x.bracketed())), g)
	}
}

// TestX6Spoilt: whatever is taken as an expression is printed and read again.
func TestX6Spoilt(t *testing.T) {
	g := seeded(162, 5)
	taken := 0
	for range 20000 {
		e, f, _ := expr.Parse(g.spoilt(g.expression().printed()))
		if f != api.OK || len(e.Print()) > api.MaxExpr {
			continue
		}
		taken++
		wantAlike(t, e, parsed(t, e.Print()), g)
	}
	if taken < 2000 {
		t.Errorf("only %d were expressions", taken)
	}
}

// TestX6Kinds: what is worked out is of the kind that Check told, or null; and where Check tells an error, it is Eval's too.
func TestX6Kinds(t *testing.T) {
	g := seeded(163, 12)
	kinds, anyKind := map[int]int{}, 0
	for range 20000 {
		e := parsed(t, g.expression().printed())
		kind, why := e.Check(things)
		v, f := e.Eval(things, g.row())
		switch {
		case why != api.OK && (kind != 0 || f != why || v != null):
			t.Fatalf("%s is of %d, %d, and %+v, %d", e.Print(), kind, why, v, f)
		case why != api.OK:
		case v != null && v.Kind != kind, f == api.ErrExprKind, f == api.ErrExprName, f == api.ErrArg, f != api.OK && v != null:
			t.Fatalf("%s is of %d, but %+v, %d", e.Print(), kind, v, f)
		case kind == api.Null:
			anyKind++
		default:
			kinds[v.Kind]++
		}
	}
	if anyKind < 50 || kinds[api.Int] < 500 || kinds[api.Text] < 500 || kinds[api.Bool] < 500 || kinds[api.Null] < 500 {
		t.Errorf("they were %v, of any kind %d", kinds, anyKind)
	}
}

// TestX6Blanks: each text is the same expression with all other blanks that there may be.
func TestX6Blanks(t *testing.T) {
	g := seeded(164, 5)
	for _, s := range []string{"1+2*x", "a-(b-c)-d", "not(a=b)or-5<- x", "p and q or not(p)", "case when p then 1 when q then-2 else b end", "s||'a  b'||substr(s,1,2)", "a not in(1,2)and b is not null", "a between-1and 1and p", "a<>b or a<=b or a>=b", "x not between 1 and 2", "s not like'%'"} {
		e := parsed(t, s)
		for range 200 {
			wantAlike(t, e, parsed(t, g.spaced(s)), g)
		}
	}
	// Those within a text are none between tokens.
	if parsed(t, "'a b'").Print() == parsed(t, "'a  b'").Print() {
		t.Error("blanks of a text do not count")
	}
}
