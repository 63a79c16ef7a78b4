package expr_test

import (
	"math"
	"math/rand"
	"strconv"
	"strings"
	"testing"

	"confluence/api"
	"confluence/value"
)

// wantForm holds a form against the model, of those values.
func wantForm(t *testing.T, form string, l ...api.Value) {
	t.Helper()
	for i := range forms {
		if forms[i].text != form {
			continue
		}
		x := &node{form: &forms[i]}
		for _, v := range l {
			x.parts = append(x.parts, leafOf(v))
		}
		want := x.eval(nil, nil)
		if v, e := parsed(t, x.printed()).Eval(api.Table{}, nil); v != want.v || e != want.e {
			t.Errorf("%s is %+v, %d, want %+v, %d", x.printed(), v, e, want.v, want.e)
		}
		return
	}
	t.Fatalf("there is no form %s", form)
}

var edges = []int{
	math.MinInt, math.MinInt + 1, math.MinInt + 2, math.MinInt / 2, math.MinInt/2 - 1, math.MinInt/2 + 1, math.MinInt / 3, -4294967296, -4294967297, -3037000500, -3037000499, -10, -7, -3, -2, -1,
	0, 1, 2, 3, 7, 10, 3037000499, 3037000500, 4294967295, 4294967296, math.MaxInt / 3, math.MaxInt / 2, math.MaxInt/2 + 1, math.MaxInt/2 + 2, math.MaxInt - 1, math.MaxInt,
}

// TestX5Arithmetic: at the ends of 64 bits and elsewhere.
func TestX5Arithmetic(t *testing.T) {
	for _, a := range edges {
		for _, b := range edges {
			for _, form := range []string{"# + #", "# - #", "# * #", "# / #", "# % #"} {
				wantForm(t, form, number(a), number(b))
			}
		}
		wantForm(t, "-(#)", number(a))
		wantForm(t, "abs(#)", number(a))
	}
	source := rand.New(rand.NewSource(152))
	for range 5000 {
		a, b := int(source.Uint64())>>source.Intn(64), int(source.Uint64())>>source.Intn(64)
		for _, form := range []string{"# + #", "# - #", "# * #", "# / #", "# % #"} {
			wantForm(t, form, number(a), number(b))
		}
	}
}

// TestX5ArithmeticByHand: the edges that the chapter names.
func TestX5ArithmeticByHand(t *testing.T) {
	for s, want := range map[string]int{
		"7 / 2": 3, "-7 / 2": -3, "7 / -2": -3, "-7 / -2": 3, "7 % 2": 1, "-7 % 2": -1, "7 % -2": 1, "-7 % -2": -1, "0 / 5": 0, "0 % 5": 0, "1 / 2": 0, "-1 / 2": 0,
		"fewest % -1": 0, "fewest % 1": 0, "fewest / 1": math.MinInt, "fewest / 2": math.MinInt / 2, "fewest / fewest": 1, "most / -1": -math.MaxInt, "fewest % most": -1, "fewest / most": -1, "most % fewest": math.MaxInt,
		"most + fewest": -1, "most - most": 0, "fewest - fewest": 0, "-1 - most": math.MinInt, "fewest + most + 1": 0, "0 * fewest": 0, "fewest * 1": math.MinInt, "most * -1": -math.MaxInt, "fewest * 0": 0, "4294967296 * -2147483648": math.MinInt, "-(most)": -math.MaxInt, "abs(most)": math.MaxInt, "abs(-1)": 1, "abs(0)": 0, "-(0)": 0, "-(-5)": 5, "1 + 2 * 3": 7, "(1 + 2) * 3": 9, "10 - 4 - 3": 3, "10 - (4 - 3)": 9, "100 / 10 / 5": 2, "7 - -7": 14,
	} {
		wantValue(t, s, number(want))
	}
	for _, s := range []string{"most + 1", "1 + most", "fewest + -1", "fewest - 1", "0 - fewest", "most - -1", "-2 - most", "most * 2", "2 * most", "fewest * -1", "-1 * fewest", "fewest * 2", "fewest * fewest", "most * most", "4294967296 * 2147483648", "3037000500 * 3037000500", "fewest / -1", "-(fewest)", "abs(fewest)", "abs(-9223372036854775808)", "-(-9223372036854775808)", "most + 1 - 1"} {
		wantError(t, s, api.ErrExprRange)
	}
	for _, s := range []string{"1 / 0", "0 / 0", "fewest / 0", "1 % 0", "0 % 0", "fewest % 0", "a / (a - 7)", "1 % (1 - 1)"} {
		wantError(t, s, api.ErrExprZero)
	}
}

func literalText(n int, of string) string { return "'" + strings.Repeat(of, n) + "'" }

// TestX5Join: up to 200 bytes.
func TestX5Join(t *testing.T) {
	wantValue(t, "'' || ''", text(""))
	wantValue(t, "'a' || 'b' || 'c'", text("abc"))
	wantValue(t, "s || ''", text("abc"))
	wantValue(t, "'\\ff' || '\\00'", text("\xff\x00"))
	for n := 0; n <= 200; n += 20 {
		wantValue(t, literalText(n, "a")+" || "+literalText(200-n, "b"), text(strings.Repeat("a", n)+strings.Repeat("b", 200-n)))
		if n > 0 {
			wantError(t, literalText(n, "a")+" || "+literalText(201-n, "b"), api.ErrExprRange)
		}
	}
	wantError(t, "'"+full[:150]+"' || '"+full[:150]+"'", api.ErrExprRange)
	wantError(t, "substr('"+full[:150]+"' || '"+full[:51]+"', 1, 1)", api.ErrExprRange)
	in := api.Table{Columns: []api.Column{{Name: "x", Kind: api.Text}, {Name: "y", Kind: api.Text}}}
	for n := range 201 {
		for _, more := range []int{0, 1, 200 - n, 201 - n, 200} {
			want := answer{text(strings.Repeat("\xff", n) + strings.Repeat("\x00", more)), api.OK}
			if more > 200 || n+more > 200 {
				want = failed(api.ErrExprRange)
			}
			if more > 200 {
				continue
			}
			if v, e := parsed(t, "x || y").Eval(in, api.Row{text(strings.Repeat("\xff", n)), text(strings.Repeat("\x00", more))}); v != want.v || e != want.e {
				t.Errorf("%d and %d bytes: %+v, %d", n, more, v, e)
			}
		}
	}
}

func TestX5Letters(t *testing.T) {
	every := ""
	for b := range 256 {
		every += string([]byte{byte(b)})
	}
	for _, s := range append(someTexts, every[:128], every[128:], every[40:240], "aZzA@[`{", "straße", "ǆ", "ı") {
		in := api.Table{Columns: []api.Column{{Name: "x", Kind: api.Text}}}
		for word, turn := range map[string]func(string) string{"upper": upper.Replace, "lower": lower.Replace} {
			if v, e := parsed(t, word+"(x)").Eval(in, api.Row{text(s)}); v != text(turn(s)) || e != api.OK {
				t.Errorf("%s of %q is %+v, %d", word, s, v, e)
			}
		}
		if v, e := parsed(t, "length(x)").Eval(in, api.Row{text(s)}); v != number(len(s)) || e != api.OK {
			t.Errorf("the length of %q is %+v, %d", s, v, e)
		}
	}
	wantValue(t, "upper('aZz09 {`\\ff')", text("AZZ09 {`\xff"))
	wantValue(t, "lower('AzZ09 [@\\c3')", text("azz09 [@\xc3"))
	wantValue(t, "length('\\c3\\a9')", number(2))
	wantValue(t, "length('it''s')", number(4))
	wantValue(t, "length('')", number(0))
}

func TestX5Substr(t *testing.T) {
	for _, s := range []string{"", "a", "abcde", "\xff\x00é"} {
		for from := -3; from <= len(s)+4; from++ {
			for n := -3; n <= len(s)+4; n++ {
				wantForm(t, "substr(#, #, #)", text(s), number(from), number(n))
			}
			for _, n := range edges {
				wantForm(t, "substr(#, #, #)", text(s), number(from), number(n))
				wantForm(t, "substr(#, #, #)", text(s), number(n), number(from))
			}
		}
	}
	wantForm(t, "substr(#, #, #)", text(full), number(200), number(1))
	wantForm(t, "substr(#, #, #)", text(full), number(201), number(1))
	for s, want := range map[string]string{
		"substr('abc', 1, 3)": "abc", "substr('abc', 1, 2)": "ab", "substr('abc', 2, 2)": "bc", "substr('abc', 3, 1)": "c", "substr('abc', 3, 9)": "c", "substr('abc', 4, 1)": "", "substr('abc', 9, 9)": "", "substr('abc', 1, 0)": "", "substr('abc', 4, 0)": "", "substr('', 1, 1)": "", "substr(s, most, most)": "", "substr(s, 1, most)": "abc", "substr(s, 2, most)": "bc", "substr('abc', 2, 1)": "b",
	} {
		wantValue(t, s, text(want))
	}
	for _, s := range []string{"substr(s, 0, 1)", "substr(s, -1, 1)", "substr(s, 1, -1)", "substr(s, 9, -1)", "substr(s, 0, 0)", "substr('', 0, 1)", "substr(s, fewest, 1)", "substr(s, 1, fewest)"} {
		wantError(t, s, api.ErrExprRange)
	}
}

// TestX5LikeAll: each pattern of at most four signs, and each text of at most four.
func TestX5LikeAll(t *testing.T) {
	words := func(signs string) []string {
		all := []string{""}
		for from := 0; len(all[from]) < 4; from++ {
			for _, b := range signs {
				all = append(all, all[from]+string(b))
			}
		}
		return all
	}
	in := api.Table{Columns: []api.Column{{Name: "x", Kind: api.Text}, {Name: "y", Kind: api.Text}}}
	e, not := parsed(t, "x like y"), parsed(t, "x not like y")
	for _, s := range append(words("ab"), "%", "_", "a%", "%%a", "a_b") {
		for _, p := range words("ab%_") {
			want := logic(likes(s, p))
			if v, f := e.Eval(in, api.Row{text(s), text(p)}); v != want || f != api.OK {
				t.Fatalf("%q like %q is %+v, %d", s, p, v, f)
			}
			if v, f := not.Eval(in, api.Row{text(s), text(p)}); v == want || v == null || f != api.OK {
				t.Fatalf("%q not like %q is %+v, %d", s, p, v, f)
			}
		}
	}
}

func TestX5LikeByHand(t *testing.T) {
	for _, c := range []struct {
		s, p string
		want bool
	}{
		{"", "", true}, {"", "%", true}, {"", "%%", true}, {"", "_", false}, {"a", "", false}, {"a", "_", true}, {"a", "__", false}, {"abc", "%", true}, {"abc", "abc", true}, {"abc", "ABC", false}, {"abc", "ab", false}, {"abc", "bc", false}, {"abc", "a%", true}, {"abc", "%c", true}, {"abc", "%b%", true}, {"abc", "a%c", true}, {"abc", "a%b", false}, {"abc", "_b_", true}, {"abc", "_b", false}, {"abc", "%_", true}, {"abc", "____%", false}, {"abc", "___%", true}, {"abc", "%abc%", true}, {"abc", "%%%", true},
		{"%", "%", true}, {"a%b", "a%b", true}, {"a_b", "a_b", true}, {"axb", "a_b", true}, {"axxb", "a_b", false}, {"é", "_", false}, {"é", "__", true}, {"\xff\x00", "_\x00", true}, {"\n", "_", true}, {"a\nb", "a%b", true}, {"\\", "\\", true}, {"a", "\\a", false}, {"%", "\\%", false}, {"\\x", "\\%", true}, {"aab", "%ab", true}, {"aaab", "%aab", true}, {"abab", "%ab", true}, {"ababc", "%abc", true}, {"mississippi", "%iss%ip%", true}, {"mississippi", "%iss%iss%iss%", false}, {"a.c", "a.c", true}, {"abc", "a.c", false}, {"a*c", "a*", false},
	} {
		wantForm(t, "# like #", text(c.s), text(c.p))
		wantValue(t, value.Print(text(c.s))+" like "+value.Print(text(c.p)), logic(c.want))
		wantValue(t, value.Print(text(c.s))+" not like "+value.Print(text(c.p)), logic(!c.want))
	}
}

// TestX5LikeEnds: however many `%` there are, it ends soon.
func TestX5LikeEnds(t *testing.T) {
	in := api.Table{Columns: []api.Column{{Name: "x", Kind: api.Text}, {Name: "y", Kind: api.Text}}}
	s := strings.Repeat("a", 200)
	for p, want := range map[string]bool{
		strings.Repeat("a%", 99) + "b": false, strings.Repeat("%a", 99) + "%": true, strings.Repeat("%", 200): true, strings.Repeat("%_", 100): true, strings.Repeat("_", 200): true, strings.Repeat("_", 199): false, strings.Repeat("%a", 100): true, strings.Repeat("a%", 100): true, strings.Repeat("%aa", 60) + "b%": false,
	} {
		for range 100 {
			if v, e := parsed(t, "x like y").Eval(in, api.Row{text(s), text(p)}); v != logic(want) || e != api.OK {
				t.Fatalf("%s: %+v, %d", p, v, e)
			}
		}
	}
}

// TestX5Digits: literals are what their digits say.
func TestX5Digits(t *testing.T) {
	for _, n := range edges {
		wantValue(t, strconv.Itoa(n), number(n))
		wantValue(t, "("+strconv.Itoa(n)+")", number(n))
	}
	wantValue(t, "a -5", number(2))
	wantValue(t, "a - -5", number(12))
	wantValue(t, "-0", number(0))
	wantValue(t, "-(5)", number(-5))
	wantValue(t, "--5", number(5))
	wantValue(t, "- - -a", number(-7))
}
