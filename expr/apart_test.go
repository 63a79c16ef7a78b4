package expr_test

import (
	"reflect"
	"slices"
	"strings"
	"sync"
	"testing"
	"unsafe"

	"confluence/api"
	"confluence/expr"
)

// roomy is a list with spare room behind it, full of what nobody may touch.
func roomy[T any](l []T, mark T) []T {
	out := append(slices.Clone(l), mark, mark, mark)
	return out[:len(l)]
}

// TestR2NothingIsWrittenInto: neither into lists that are handed in, nor into their spare room.
func TestR2NothingIsWrittenInto(t *testing.T) {
	g := seeded(171, 6)
	mark, odd := api.Column{Name: "mark", Kind: 77}, api.Value{Kind: 77, N: 77, S: "mark"}
	for range 2000 {
		in, r := things, roomy(g.row(), odd)
		in.Columns = roomy(things.Columns, mark)
		wasColumns, wasRow := slices.Clone(in.Columns[:len(in.Columns)+3]), slices.Clone(r[:len(r)+3])
		e := parsed(t, g.expression().printed())
		e.Check(in)
		e.Eval(in, r)
		e.Eval(in, r[:3])
		if !slices.Equal(wasColumns, in.Columns[:len(in.Columns)+3]) || !slices.Equal(wasRow, r[:len(r)+3]) {
			t.Fatalf("%s has written into what it was given", e.Print())
		}
	}
}

// TestR2NothingIsKept: what was handed in may be written over, and nothing is asked of it any more.
func TestR2NothingIsKept(t *testing.T) {
	in := api.Table{Columns: slices.Clone(things.Columns)}
	r := slices.Clone(row)
	e := parsed(t, "greatest(a, 3) + length(s)")
	if v, f := e.Eval(in, r); v != number(10) || f != api.OK {
		t.Fatalf("%+v, %d", v, f)
	}
	r[0], r[2] = number(100), text("")
	if v, f := e.Eval(in, r); v != number(100) || f != api.OK {
		t.Errorf("of another row: %+v, %d", v, f)
	}
	in.Columns[0].Kind = api.Bool
	if _, f := e.Check(in); f != api.ErrExprKind {
		t.Errorf("of another table: %d", f)
	}
	in.Columns[0].Name = "x"
	if _, f := e.Check(in); f != api.ErrExprName {
		t.Errorf("without the column: %d", f)
	}
	if v, f := e.Eval(things, row); v != number(10) || f != api.OK {
		t.Errorf("of the first ones: %+v, %d", v, f)
	}
}

// shares tells whether two texts lie in one memory.
func shares(a, b string) bool {
	from, to := uintptr(unsafe.Pointer(unsafe.StringData(a))), uintptr(unsafe.Pointer(unsafe.StringData(b)))
	return a != "" && b != "" && from < to+uintptr(len(b)) && to < from+uintptr(len(a))
}

// TestR2TextIsNotKept: nothing of an expression lies in the text that it was read from.
func TestR2TextIsNotKept(t *testing.T) {
	for _, s := range []string{"first + second * 'text'", "case when alpha then beta else 'gamma''s' end", "length(word) in (1, 22, 333)", "word", "'text'"} {
		e := parsed(t, s)
		v, _ := e.Eval(api.Table{}, nil)
		for _, told := range append(e.Names(), e.Print(), v.S) {
			if shares(told, s) {
				t.Errorf("%s has kept %s", s, told)
			}
		}
	}
	s := strings.Repeat("x", 9)
	if !shares(s, s[3:5]) || shares(s[:4], s[4:]) || shares(s, strings.Clone(s)) {
		t.Error("what texts share is told wrongly")
	}
}

// TestR2AnswersAreNew: a list that came out may be written over, and its spare room filled.
func TestR2AnswersAreNew(t *testing.T) {
	e := parsed(t, "a + b * c + length(s) + a")
	want := []string{"a", "b", "c", "s"}
	l, m := e.Names(), e.Names()
	for i := range l {
		l[i] = "x"
	}
	_ = append(l, "y", "z")
	if !slices.Equal(m, want) || !slices.Equal(e.Names(), want) {
		t.Errorf("the names are %q, and %q", m, e.Names())
	}
	one := parsed(t, "a")
	one.Names()[0] = "x"
	wantNames(t, "a", "a")
	if l := one.Names(); !slices.Equal(l, []string{"a"}) || one.Print() != "a" {
		t.Errorf("a name is %q, %s", l, one.Print())
	}
	for _, s := range []string{"s", "substr(s, 1, 2)", "coalesce(u, s)", "greatest('a', s)", "s || ''", "upper(s)", "case when p then s end", "nullif(s, 'x')", "least(s)"} {
		if v, e := parsed(t, s).Eval(things, row); v.Kind != api.Text || v.S == "" || e != api.OK || shares(v.S, row[2].S) {
			t.Errorf("%s is %+v, %d, in the row's memory", s, v, e)
		}
	}
}

// TestNothingChanges: an expression is not changed by any call, right or wrong; not even by what fails.
func TestNothingChanges(t *testing.T) {
	g := seeded(172, 6)
	for range 2000 {
		x := g.expression()
		e, same := parsed(t, x.printed()), parsed(t, x.printed())
		for range 5 {
			switch g.Intn(5) {
			case 0:
				e.Check(api.Table{})
			case 1:
				e.Eval(things, nil)
			case 2:
				e.Eval(things, g.row())
			case 3:
				e.Names()
				e.Print()
			default:
				e.Check(things)
			}
		}
		if !reflect.DeepEqual(e, same) {
			t.Fatalf("%s has changed", x.printed())
		}
	}
}

// TestSideBySide: several goroutines may ask one expression at a time.
func TestSideBySide(t *testing.T) {
	x := "case when a between 1 and 9 and s like '%b%' then length(s) * a else coalesce(b, -a) end in (21, 5)"
	e := parsed(t, x)
	var group sync.WaitGroup
	for range 8 {
		group.Go(func() {
			for range 200 {
				v, f := e.Eval(things, row)
				k, g := e.Check(things)
				again, h, _ := expr.Parse(x)
				if v != yes || f != api.OK || k != api.Bool || g != api.OK || h != api.OK || again.Print() != e.Print() || len(e.Names()) != 3 {
					t.Errorf("%+v, %d, %d, %d, %s, %q", v, f, k, g, e.Print(), e.Names())
				}
			}
		})
	}
	group.Wait()
}
