package value_test

import (
	"math"
	"math/rand"
	"slices"
	"testing"

	"confluence/api"
	"confluence/value"
)

func wantOrder(t *testing.T, l []api.Value) {
	t.Helper()
	for i, a := range l {
		for j, b := range l {
			want := min(1, max(-1, i-j))
			if c := value.Compare(a, b); c != want {
				t.Errorf("Compare(%+v, %+v) = %d, want %d", a, b, c, want)
			}
		}
	}
}

func TestV1OrderOfRightValues(t *testing.T) {
	wantOrder(t, ordered)
}

func TestV1OrderOfAnyValues(t *testing.T) {
	wantOrder(t, []api.Value{
		{Kind: api.Null, N: math.MinInt, S: "x"}, {Kind: api.Null, N: -1}, null, {Kind: api.Null, S: "\x00"}, {Kind: api.Null, S: "a"}, {Kind: api.Null, S: "ab"}, {Kind: api.Null, N: 1}, {Kind: api.Null, N: 1, S: "a"},
		{Kind: api.Bool, N: -1, S: long}, no, {Kind: api.Bool, S: "x"}, yes, {Kind: api.Bool, N: 1, S: "x"}, {Kind: api.Bool, N: 2},
		number(math.MinInt), number(4), {Kind: api.Int, N: 4, S: "a"}, {Kind: api.Int, N: 4, S: "b"}, number(5), number(math.MaxInt), {Kind: api.Int, N: math.MaxInt, S: long},
		{Kind: api.Text, N: -1, S: "z"}, text(""), text("a"), text(long), {Kind: api.Text, N: 1}, {Kind: api.Text, N: 1, S: "a"},
		{Kind: math.MinInt, N: 9, S: "z"}, {Kind: -2}, {Kind: -1}, {Kind: -1, S: "a"}, {Kind: -1, N: 1}, {Kind: 4, N: -1}, {Kind: 4}, {Kind: 4, S: "a"}, {Kind: 5}, {Kind: 256}, {Kind: math.MaxInt, N: -1}, {Kind: math.MaxInt},
	})
}

func TestV1NoughtJustOfTheSame(t *testing.T) {
	source := rand.New(rand.NewSource(41))
	for range 20000 {
		a, b := randomValue(source), randomValue(source)
		c := value.Compare(a, b)
		if (c == 0) != (a == b) || c < -1 || c > 1 || c != -value.Compare(b, a) {
			t.Fatalf("Compare(%+v, %+v) = %d, the other way round %d", a, b, c, value.Compare(b, a))
		}
	}
}

func TestV1OneOrder(t *testing.T) {
	source := rand.New(rand.NewSource(42))
	for range 200 {
		l := make([]api.Value, 20)
		for i := range l {
			l[i] = randomValue(source)
		}
		slices.SortFunc(l, value.Compare)
		for i, a := range l {
			for _, b := range l[i:] {
				if value.Compare(a, b) > 0 {
					t.Fatalf("%+v is ahead of %+v once, and behind it", a, b)
				}
			}
		}
	}
}

func TestV2Same(t *testing.T) {
	for _, c := range []struct {
		what string
		a, b api.Row
		want bool
	}{
		{"nil, nil", nil, nil, true},
		{"nil, empty", nil, api.Row{}, true},
		{"empty, nil", api.Row{}, nil, true},
		{"one, none", api.Row{null}, nil, false},
		{"none, one", nil, api.Row{null}, false},
		{"one", api.Row{number(5)}, api.Row{number(5)}, true},
		{"another N", api.Row{number(5)}, api.Row{number(6)}, false},
		{"another S", api.Row{text("a")}, api.Row{text("b")}, false},
		{"a beginning of S", api.Row{text("a")}, api.Row{text("ab")}, false},
		{"another kind", api.Row{number(1)}, api.Row{yes}, false},
		{"null and an empty text", api.Row{null}, api.Row{text("")}, false},
		{"null and nought", api.Row{null}, api.Row{number(0)}, false},
		{"false and nought", api.Row{no}, api.Row{number(0)}, false},
		{"null and null", api.Row{null}, api.Row{null}, true},
		{"a beginning", api.Row{null, yes}, api.Row{null, yes, null}, false},
		{"the other beginning", api.Row{null, yes, null}, api.Row{null, yes}, false},
		{"turned round", api.Row{null, yes}, api.Row{yes, null}, false},
		{"the last one", api.Row{null, yes, text("a")}, api.Row{null, yes, text("A")}, false},
		{"the first one", api.Row{no, yes, text("a")}, api.Row{null, yes, text("a")}, false},
		{"many", ordered, slices.Clone(ordered), true},
		{"formless ones", formless, slices.Clone(formless), true},
		{"N that a Text has not", api.Row{{Kind: api.Text, N: 1, S: "a"}}, api.Row{text("a")}, false},
		{"S that an Int has not", api.Row{{Kind: api.Int, N: 1, S: "a"}}, api.Row{number(1)}, false},
		{"too wide", noRow, slices.Clone(noRow), true},
	} {
		if got := value.Same(c.a, c.b); got != c.want {
			t.Errorf("%s: Same = %v", c.what, got)
		}
	}
	for i, v := range formless {
		for j, w := range formless {
			if value.Same(api.Row{v}, api.Row{w}) != (i == j) {
				t.Errorf("Same of %+v, %+v", v, w)
			}
		}
	}
}
