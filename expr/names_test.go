package expr_test

import (
	"slices"
	"strings"
	"testing"
)

func wantNames(t *testing.T, s string, want ...string) {
	t.Helper()
	if l := parsed(t, s).Names(); !slices.Equal(l, want) {
		t.Errorf("the names of %s are %q, want %q", s, l, want)
	}
}

func TestX3Names(t *testing.T) {
	wantNames(t, "1")
	wantNames(t, "'a' || null = true")
	wantNames(t, "a", "a")
	wantNames(t, "-a", "a")
	wantNames(t, "a + a", "a")
	wantNames(t, "b + a", "b", "a")
	wantNames(t, "b + a * b + a", "b", "a")
	wantNames(t, "a or b and a or not c or b", "a", "b", "c")
	wantNames(t, "c is null or (b is not null)", "c", "b")
	wantNames(t, "x in (d, c, d, x, b)", "x", "d", "c", "b")
	wantNames(t, "x not between z and y and w", "x", "z", "y", "w")
	wantNames(t, "z not like y", "z", "y")
	wantNames(t, "case when d then c when b then a else d end", "d", "c", "b", "a")
	wantNames(t, "case when 1 = 1 then a when b then c end + e", "a", "b", "c", "e")
	wantNames(t, "substr(c, b, a) || length(c)", "c", "b", "a")
	wantNames(t, "length(length)", "length")
	wantNames(t, "coalesce(abs, lower(abs), upper)", "abs", "upper")
	wantNames(t, "'a' = a", "a")
	wantNames(t, "a1 + a_ + a + a11 + a1", "a1", "a_", "a", "a11")
	wantNames(t, "abcdefghijklmnop = abcdefghijklmno", "abcdefghijklmnop", "abcdefghijklmno")
}

// TestX3EachPlace: of each part of each form, in the order in which they stand.
func TestX3EachPlace(t *testing.T) {
	for i := range forms {
		x := leaves(&forms[i])
		wantNames(t, x.printed(), x.names()...)
		slices.Reverse(x.parts)
		wantNames(t, x.printed(), x.names()...)
		if l := x.names(); len(l) != len(x.parts) || !slices.IsSortedFunc(l, func(a, b string) int { return strings.Compare(b, a) }) {
			t.Fatalf("the model's names of %s: %q", x.printed(), l)
		}
		for k := range x.parts {
			x.parts[k] = nameOf("same")
		}
		wantNames(t, x.printed(), "same")
	}
}

func TestX3Many(t *testing.T) {
	var l []string
	for i := range 100 {
		l = append(l, "c"+string(rune('a'+i%26))+string(rune('a'+i/26)))
	}
	s := "coalesce(" + strings.Join(l[:90], ",") + ")"
	wantNames(t, s, l[:90]...)
}

func TestX3Random(t *testing.T) {
	g := seeded(131, 4)
	for range 5000 {
		x := g.expression()
		wantNames(t, x.bracketed(), x.names()...)
	}
}
