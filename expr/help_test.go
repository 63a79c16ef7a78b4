package expr_test

import (
	"math"
	"strings"
	"testing"

	"confluence/api"
	"confluence/expr"
)

func number(n int) api.Value { return api.Value{Kind: api.Int, N: n} }

func text(s string) api.Value { return api.Value{Kind: api.Text, S: s} }

var (
	null = api.Value{}
	no   = api.Value{Kind: api.Bool}
	yes  = api.Value{Kind: api.Bool, N: 1}
	full = strings.Repeat("x", api.MaxText)
)

// Literals that are worked out to an error, each to another one.
const (
	zero = "1 / 0"                   // ErrExprZero
	far  = "9223372036854775807 + 1" // ErrExprRange
)

// things is a table with columns of each kind; row is a row of it.
var (
	things = api.Table{ID: 1, Version: 1, Name: "t", Columns: []api.Column{
		{Name: "a", Kind: api.Int}, {Name: "b", Kind: api.Int, Null: true}, {Name: "s", Kind: api.Text}, {Name: "u", Kind: api.Text, Null: true},
		{Name: "p", Kind: api.Bool}, {Name: "q", Kind: api.Bool, Null: true}, {Name: "most", Kind: api.Int}, {Name: "fewest", Kind: api.Int},
	}}
	row = api.Row{number(7), null, text("abc"), null, yes, null, number(math.MaxInt), number(math.MinInt)}
)

func parsed(t *testing.T, s string) *expr.Expr {
	t.Helper()
	e, f, n := expr.Parse(s)
	if e == nil || f != api.OK || n != 0 {
		t.Fatalf("Parse(%q) = %v, %d, %d", s, e, f, n)
	}
	return e
}

// wantPrint tells how texts are printed: each line is a text and what it is printed as, by turns.
func wantPrint(t *testing.T, l ...string) {
	t.Helper()
	for i := 0; i < len(l); i += 2 {
		if p := parsed(t, l[i]).Print(); p != l[i+1] {
			t.Errorf("%s is printed as %s, want %s", l[i], p, l[i+1])
		}
	}
}

// wantSame are texts that are printed as they are.
func wantSame(t *testing.T, l ...string) {
	t.Helper()
	for _, s := range l {
		wantPrint(t, s, s)
	}
}

func wantRefused(t *testing.T, s string, why api.Errno, place int) {
	t.Helper()
	if e, f, n := expr.Parse(s); e != nil || f != why || n != place {
		t.Errorf("Parse(%q) = %v, %d, %d, want %d, %d", s, e, f, n, why, place)
	}
}

// stuck is a text that is refused with ErrExprForm, and where.
type stuck struct {
	text  string
	place int
}

func wantStuck(t *testing.T, l ...stuck) {
	t.Helper()
	for _, c := range l {
		wantRefused(t, c.text, api.ErrExprForm, c.place)
	}
}

func wantValue(t *testing.T, s string, want api.Value) {
	t.Helper()
	if v, e := parsed(t, s).Eval(things, row); v != want || e != api.OK {
		t.Errorf("%s is %+v, %d, want %+v", s, v, e, want)
	}
}

func wantError(t *testing.T, s string, want api.Errno) {
	t.Helper()
	if v, e := parsed(t, s).Eval(things, row); v != null || e != want {
		t.Errorf("%s is %+v, %d, want the error %d", s, v, e, want)
	}
}

func wantKind(t *testing.T, s string, in api.Table, kind int, why api.Errno) {
	t.Helper()
	if k, e := parsed(t, s).Check(in); k != kind || e != why {
		t.Errorf("%s is of the kind %d, %d, want %d, %d", s, k, e, kind, why)
	}
}
