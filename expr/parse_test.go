package expr_test

import (
	"strings"
	"testing"

	"confluence/api"
)

func TestX1Examples(t *testing.T) {
	wantStuck(t, stuck{"1 +", 3}, stuck{"1 2", 2}, stuck{"foo(1)", 0}, stuck{"length(1, 2)", 0}, stuck{"01", 1}, stuck{"", 0}, stuck{"length()", 7})
	wantRefused(t, "9223372036854775808", api.ErrExprRange, 0)
}

// TestX1EveryProduction: each line of the grammar, by each of its ways.
func TestX1EveryProduction(t *testing.T) {
	wantSame(t,
		"a or b", "a or b or c", "a and b", "a and b and c", "a and b or c and d", "not a", "not not a",
		"a", "a = b", "a <> b", "a < b", "a <= b", "a > b", "a >= b",
		"a is null", "a is not null", "a in (b)", "a in (b, c)", "a in (b or c, not d, e = f)", "a not in (b)", "a not in (b, c, d)",
		"a between b and c", "a not between b and c", "a like b", "a not like b",
		"a || b", "a || b || c", "a + b", "a - b", "a + b - c + d", "a * b", "a / b", "a % b", "a * b / c % d",
		"-(a)", "-(-(a))", "-5", "5", "0", "'x'", "''", "null", "true", "false", "x1_",
		"length(a)", "abs(a)", "upper(a)", "lower(a)", "nullif(a, b)", "substr(a, b, c)", "coalesce(a)", "coalesce(a, b)", "greatest(a)", "greatest(a, b, c)", "least(a)", "least(a, b, c, d)", "abs(a or b)",
		"case when a then b end", "case when a then b else c end", "case when a then b when c then d end", "case when a or b then c or d when e then f else g or h end",
		"a || b + c * -(d) = e and not f or g",
	)
	wantPrint(t, "(a)", "a", "(((a)))", "a", "(a or b)", "a or b", "- a", "-(a)", "--a", "-(-(a))", "- - -a", "-(-(-(a)))", "(a) + ((b))", "a + b")
}

func TestX1Length(t *testing.T) {
	for _, s := range []string{"1", "a + 1", "'x'", "1 +", "", ")", "\xff", "99999999999999999999", "foo("} {
		n := api.MaxExpr - len(s)
		for _, blank := range []string{" ", "(", "x", "9", "\x00"} {
			wantRefused(t, s+strings.Repeat(blank, n+1), api.ErrExprForm, 400)
			wantRefused(t, strings.Repeat(blank, n+1)+s, api.ErrExprForm, 400)
			wantRefused(t, strings.Repeat(blank, 1<<16)+s, api.ErrExprForm, 400)
		}
	}
	wantPrint(t, strings.Repeat(" ", 399)+"1", "1", "1"+strings.Repeat(" ", 399), "1", strings.Repeat(" ", 199)+"a"+strings.Repeat(" ", 200), "a")
	wantPrint(t, strings.Repeat("(", 199)+"55"+strings.Repeat(")", 199), "55")
	wantStuck(t, stuck{strings.Repeat(" ", 400), 400}, stuck{"1" + strings.Repeat(" ", 398) + "+", 400}, stuck{strings.Repeat("(", 400), 400}, stuck{"1" + strings.Repeat(" ", 398) + ")", 399})
	wantStuck(t, stuck{strings.Repeat("x", 400), 0})
	wantRefused(t, strings.Repeat("9", 400), api.ErrExprRange, 0)
	wantRefused(t, strings.Repeat("9", 401), api.ErrExprForm, 400)
}

func TestX1Blanks(t *testing.T) {
	wantStuck(t, stuck{"", 0}, stuck{" ", 1}, stuck{"     ", 5}, stuck{"1 +  ", 5}, stuck{"  )", 2}, stuck{"   +", 3})
	wantPrint(t, "  a  ", "a", "a+b", "a + b", "a   +   b", "a + b", " length  (  a  ) ", "length(a)", "a  not   in  (  1  ,2 )", "a not in (1, 2)", " - 5", "-5", "-   5", "-5")
	for _, b := range []string{"\t", "\n", "\r", "\v", "\f", "\x00", "\u00a0", "\u2003", "\x85", "\x1f", "!"} {
		wantStuck(t, stuck{b, 0}, stuck{"a" + b, 1}, stuck{"a +" + b + "b", 3}, stuck{b + "a", 0}, stuck{" " + b + "a", 1})
	}
}

// TestX1TokensThatTouch: no blank is needed where two tokens can't be read as one; where they can, they are.
func TestX1TokensThatTouch(t *testing.T) {
	wantPrint(t,
		"1and 2", "1 and 2", "1or(a)", "1 or a", "'x'or'y'", "'x' or 'y'", "a in(1)", "a in (1)", "a in(1)and b", "a in (1) and b", "(a)and(b)", "a and b",
		"not(a)", "not a", "not'x'", "not 'x'", "not-a", "not -(a)", "a=-5", "a = -5", "a<-5", "a < -5", "a<>-5", "a <> -5", "a>=-5", "a >= -5", "a||-5", "a || -5", "a--5", "a - -5", "a-5", "a - 5", "a*-5", "a * -5",
		"1is null", "1 is null", "1is not null", "1 is not null", "1between 2and 3", "1 between 2 and 3", "'a'like'b'", "'a' like 'b'", "'a'not like'b'", "'a' not like 'b'", "1not in(2)", "1 not in (2)",
		"case when 1then 2when'3'then(4)else-5end", "case when 1 then 2 when '3' then 4 else -5 end", "abs(1)+abs(2)", "abs(1) + abs(2)", "0or 0", "0 or 0",
		"a<=b", "a <= b", "a<>b", "a <> b", "a>=b", "a >= b", "a||b", "a || b", "a%b", "a % b", "a<(b)", "a < b",
	)
	wantPrint(t, "nota", "nota", "aand", "aand", "a1", "a1", "notin", "notin", "isnull", "isnull", "case1", "case1", "and_", "and_", "null0", "null0", "trueor", "trueor", "'a''b'", "'a''b'", "12", "12")
	wantStuck(t,
		stuck{"1 and2", 2}, stuck{"a and2", 2}, stuck{"aand b", 5}, stuck{"a isnull", 2}, stuck{"a notin (1)", 2}, stuck{"a or2", 2}, stuck{"a not in1", 6}, stuck{"case when1 then 2 end", 5},
		stuck{"a < = b", 4}, stuck{"a > = b", 4}, stuck{"a < > b", 4}, stuck{"a | | b", 2}, stuck{"a|b", 1}, stuck{"a|||b", 3}, stuck{"a<>=b", 3}, stuck{"a<=>b", 3}, stuck{"a=<b", 2}, stuck{"a=>b", 2}, stuck{"a==b", 2}, stuck{"a><b", 2}, stuck{"a<<b", 2}, stuck{"a>>=b", 2}, stuck{"a!=b", 1},
		stuck{"'a' 'b'", 4}, stuck{"1 2", 2}, stuck{"a b", 2}, stuck{"a1 1", 3}, stuck{"1a", 1}, stuck{"1'a'", 1}, stuck{"'a'1", 3}, stuck{"'a'b", 3}, stuck{"a'b'", 1}, stuck{"12a", 2}, stuck{"(1)2", 3}, stuck{"1(2)", 1}, stuck{"'a'(2)", 3}, stuck{"(1)(2)", 3},
		stuck{"a|", 1}, stuck{"|", 0}, stuck{"||", 0}, stuck{"a||", 3}, stuck{"a||*", 3},
	)
}

func TestX1Numbers(t *testing.T) {
	wantSame(t, "0", "1", "9", "10", "100", "9223372036854775807", "-9223372036854775808", "-9223372036854775807", "-1", "a - 9223372036854775807", "a + 0", "-(0)")
	wantPrint(t, "-0", "0", "- 0", "0", "--0", "-(0)", "a-0", "a - 0", "a- -0", "a - 0", "--9223372036854775808", "-(-9223372036854775808)", "a - -9223372036854775808", "a - -9223372036854775808", "(-9223372036854775808)", "-9223372036854775808")
	wantStuck(t, stuck{"00", 1}, stuck{"01", 1}, stuck{"007", 1}, stuck{"-01", 2}, stuck{"-00", 2}, stuck{"a + 01", 5}, stuck{"0 0", 2}, stuck{"1.5", 1}, stuck{".5", 0}, stuck{"1e5", 1}, stuck{"0x1", 1}, stuck{"1_000", 1}, stuck{"+5", 0}, stuck{"1,2", 1}, stuck{"5-", 2}, stuck{"٣", 0}, stuck{"１", 0})
	for _, c := range []stuck{
		{"9223372036854775808", 0}, {"-9223372036854775809", 1}, {"-  9223372036854775809", 3}, {"99999999999999999999", 0}, {"18446744073709551616", 0}, {"18446744073709551617", 0}, {"-18446744073709551615", 1}, {strings.Repeat("1", 300), 0},
		{"-(9223372036854775808)", 2}, {"a - 9223372036854775808", 4}, {"a -9223372036854775808", 3}, {"5 -9223372036854775808", 3}, {"(5) - 9223372036854775808", 6}, {"'x' -9223372036854775808", 5}, {"null - 9223372036854775808", 7}, {"case when p then 1 end - 9223372036854775808", 25},
		{"--9223372036854775809", 2}, {"a + 9223372036854775808 + 99999999999999999999", 4}, {"not 9223372036854775808", 4}, {"abs(9223372036854775808)", 4}, {"a in (1, 9223372036854775808", 9},
	} {
		wantRefused(t, c.text, api.ErrExprRange, c.place)
	}
	wantSame(t, "a * -9223372036854775808", "a in (-9223372036854775808, -9223372036854775808)", "abs(-9223372036854775808)", "case when p then -9223372036854775808 end", "not -9223372036854775808", "a = -9223372036854775808", "a || -9223372036854775808", "a between -9223372036854775808 and -9223372036854775808")
}

// TestX1Minus: a `-` between two parts is a difference, and one ahead of a number belongs to that.
func TestX1Minus(t *testing.T) {
	wantPrint(t,
		"a -5", "a - 5", "a - 5", "a - 5", "a-5", "a - 5", "a - -5", "a - -5", "a--5", "a - -5", "a - - 5", "a - -5", "a---5", "a - -(-5)", "-5", "-5", "-(5)", "-(5)", "- (5)", "-(5)", "--5", "-(-5)", "-a", "-(a)", "-a-5", "-(a) - 5",
		"-5-5", "-5 - 5", "-5*-5", "-5 * -5", "-a*b", "-(a) * b", "-(a*b)", "-(a * b)", "-(a+b)", "-(a + b)", "-a+b", "-(a) + b", "-'x'", "-('x')", "-null", "-(null)", "-abs(5)", "-(abs(5))", "-case when a then b end", "-(case when a then b end)", "not -5", "not -5", "-(not a)", "-(not a)",
		"(a)-5", "a - 5", "5 -5", "5 - 5", "null-5", "null - 5", "abs(a)-5", "abs(a) - 5", "a in (-5, -b)", "a in (-5, -(b))", "a between -5 and -6", "a between -5 and -6", "a and-5", "a and -5",
	)
	wantStuck(t, stuck{"-", 1}, stuck{"--", 2}, stuck{"a -", 3}, stuck{"- not a", 2}, stuck{"-+5", 1}, stuck{"-)", 1}, stuck{"-5 5", 3}, stuck{"- and", 2}, stuck{"-(", 2})
}

func TestX1Texts(t *testing.T) {
	wantSame(t, "''", "'a'", "''''", "''''''", "'it''s'", "' '", "'a b  c'", "'or'", "'\\00\\ff\\5c'", "'--'", "'('", "'%_'", "'''a'''", "'"+full+"'", "'"+strings.Repeat("''", 190)+"'")
	wantPrint(t, "'a'||'b'", "'a' || 'b'", "'a'=''", "'a' = ''", "''=''''", "'' = ''''")
	wantStuck(t,
		stuck{"'", 0}, stuck{"'a", 0}, stuck{"'''", 0}, stuck{"'a''", 0}, stuck{"'''''", 0}, stuck{"a = 'b", 4}, stuck{"  'a", 2}, stuck{"a = 'it''s", 4}, stuck{"'a' = 'b", 6}, stuck{"''' '' ", 0},
		stuck{"'\\41'", 0}, stuck{"'\\5C'", 0}, stuck{"'\\'", 0}, stuck{"'\\\\'", 0}, stuck{"'\\n'", 0}, stuck{"'\\0'", 0}, stuck{"'\\'''", 0}, stuck{"'\\27'", 0}, stuck{"'a\\", 0}, stuck{"a || '\\g0'", 5},
		stuck{"'\n'", 0}, stuck{"'\x00'", 0}, stuck{"'\x7f'", 0}, stuck{"'\x80'", 0}, stuck{"'\xff'", 0}, stuck{"'é'", 0}, stuck{"'世界'", 0}, stuck{"a = 'é'", 4}, stuck{"'a\tb'", 0},
		stuck{"'" + full + "x'", 0}, stuck{"a = '" + strings.Repeat("x", 390) + "'", 4}, stuck{"\"a\"", 0}, stuck{"`a`", 0}, stuck{"'a'''b'", 5}, stuck{"'a' 'b", 4}, stuck{"'a'''''b", 7},
	)
	// A quote that is doubled is no end: so a text goes on behind it.
	wantSame(t, "''' '", "'a'' or ''b'")
	if v, _ := parsed(t, "'a'' or ''b'").Eval(api.Table{}, nil); v != text("a' or 'b") {
		t.Errorf("a text with quotes within it is %+v", v)
	}
}

func TestX1Words(t *testing.T) {
	wantSame(t, "a", "z", "abcdefghijklmnop", "a0", "a9", "a_", "a__", "a123456789012345", "x_______________", "orr", "an", "nott", "nulll", "tru", "falsee", "case_", "table", "select", "from", "where", "order", "limit", "desc", "exists", "int")
	for _, s := range []string{"abcdefghijklmnopq", "a1234567890123456", "a________________", strings.Repeat("or", 9), "length_of_a_text_", strings.Repeat("z", 390)} {
		for _, behind := range []string{"", " ", "+1", "(1)", "(", "'"} {
			wantStuck(t, stuck{s + behind, 0}, stuck{" " + s + behind, 1}, stuck{"a = " + s + behind, 4})
		}
		wantStuck(t, stuck{"a " + s, 2}, stuck{"1" + s, 1}, stuck{"a is " + s, 5}, stuck{"length(" + s, 7})
	}
	wantStuck(t, stuck{"A", 0}, stuck{"aB", 1}, stuck{"_a", 0}, stuck{"_", 0}, stuck{"NULL", 0}, stuck{"a OR b", 2}, stuck{"aé", 1}, stuck{"é", 0}, stuck{"a.b", 1}, stuck{"a$", 1}, stuck{"abcdefghijklmnoP", 15}, stuck{"abcdefghijklmnopQ", 16})
}

const reserved = "or and not is null in between like case when then else end true false"

// TestX1Reserved: those words are no names, wherever a name may stand.
func TestX1Reserved(t *testing.T) {
	for _, w := range strings.Fields(reserved) {
		switch w {
		case "null", "true", "false":
			wantSame(t, w)
			wantStuck(t, stuck{w + "(1)", len(w)}, stuck{w + " (1)", len(w) + 1}, stuck{w + " " + w, len(w) + 1})
		case "not":
			wantStuck(t, stuck{"not", 3}, stuck{"not + 1", 4}, stuck{"1 + not", 4}, stuck{"1 + not a", 4}, stuck{"a = not b", 4}, stuck{"-not a", 1}, stuck{"a || not b", 5}, stuck{"a between not b and c", 10})
			wantSame(t, "abs(not a)", "a in (not b)")
		case "case":
			wantStuck(t, stuck{"case", 4}, stuck{"case + 1", 5}, stuck{"1 + case", 8}, stuck{"case(1)", 4})
		default:
			wantStuck(t, stuck{w, 0}, stuck{w + "(1)", 0}, stuck{w + " + 1", 0}, stuck{"1 + " + w, 4}, stuck{"1 + " + w + "(1)", 4}, stuck{"-" + w, 1}, stuck{"not " + w, 4}, stuck{"(" + w + ")", 1}, stuck{"abs(" + w + ")", 4}, stuck{"a in (" + w + ")", 6}, stuck{"case when " + w + " then 1 end", 10}, stuck{"a between " + w + " and 1", 10})
		}
		wantSame(t, w+"_", w+"1", w+"x")
	}
}

// TestX1CannotGoOn: each place of each production, with what may not stand there.
func TestX1CannotGoOn(t *testing.T) {
	wantStuck(t,
		stuck{"a = b = c", 6}, stuck{"a < b > c", 6}, stuck{"a = b is null", 6}, stuck{"a is null is null", 10}, stuck{"a is null = b", 10}, stuck{"a in (1) in (2)", 9}, stuck{"a like b like c", 9}, stuck{"a between 1 and 2 between 3 and 4", 18}, stuck{"a = b not in (1)", 6}, stuck{"a is null not like b", 10},
		stuck{"a not", 5}, stuck{"a not b", 6}, stuck{"a not = b", 6}, stuck{"a not is null", 6}, stuck{"a not null", 6}, stuck{"a not not in (1)", 6}, stuck{"a not and b", 6}, stuck{"(a not)", 6},
		stuck{"a is", 4}, stuck{"a is 1", 5}, stuck{"a is not", 8}, stuck{"a is not 1", 9}, stuck{"a is not not null", 9}, stuck{"a is true", 5}, stuck{"a is b", 5}, stuck{"a is (null)", 5}, stuck{"a is nul", 5},
		stuck{"a in", 4}, stuck{"a in 1", 5}, stuck{"a in ()", 6}, stuck{"a in (", 6}, stuck{"a in (1", 7}, stuck{"a in (1,", 8}, stuck{"a in (1,)", 8}, stuck{"a in (,1)", 6}, stuck{"a in (1 2)", 8}, stuck{"a in (1, 2", 10}, stuck{"a in b", 5}, stuck{"a not in b", 9},
		stuck{"a between", 9}, stuck{"a between 1", 11}, stuck{"a between 1 or 2", 12}, stuck{"a between 1, 2", 11}, stuck{"a between 1 and", 15}, stuck{"a between 1 and and", 16}, stuck{"a between 1 = 1 and 2", 12}, stuck{"a between not b and 2", 10}, stuck{"a between 1 and not b", 16}, stuck{"a not between 1 or 2", 16}, stuck{"a between 1 and 2 = b", 18},
		stuck{"a like", 6}, stuck{"a like not b", 7}, stuck{"a like in", 7}, stuck{"a not like", 10},
		stuck{"case", 4}, stuck{"case p end", 5}, stuck{"case end", 5}, stuck{"case else 1 end", 5}, stuck{"case when", 9}, stuck{"case when then 1 end", 10}, stuck{"case when p", 11}, stuck{"case when p end", 12}, stuck{"case when p then", 16}, stuck{"case when p then end", 17}, stuck{"case when p then 1", 18}, stuck{"case when p then 1 else", 23}, stuck{"case when p then 1 else end", 24}, stuck{"case when p then 1 else 2", 25}, stuck{"case when p then 1 else 2 else 3 end", 26}, stuck{"case when p then 1 else 2 when p then 3 end", 26}, stuck{"case when p then 1 when p else 2 end", 26}, stuck{"case when p, q then 1 end", 11}, stuck{"case when p then 1 then 2 end", 19}, stuck{"case when p then 1 end end", 23}, stuck{"case when p then 1 end 2", 23},
		stuck{"(", 1}, stuck{")", 0}, stuck{"()", 1}, stuck{"(1", 2}, stuck{"1)", 1}, stuck{"(1))", 3}, stuck{"((1)", 4}, stuck{"(1, 2)", 2}, stuck{"(1 2)", 3}, stuck{"1, 2", 1}, stuck{",", 0}, stuck{"(a or)", 5}, stuck{"(or a)", 1},
		stuck{"a or", 4}, stuck{"or a", 0}, stuck{"a or or b", 5}, stuck{"a and", 5}, stuck{"a and or b", 6}, stuck{"a or and b", 5}, stuck{"not", 3}, stuck{"not or", 4}, stuck{"not = a", 4},
		stuck{"a =", 3}, stuck{"= a", 0}, stuck{"a = = b", 4}, stuck{"a = not b", 4}, stuck{"a ||", 4}, stuck{"|| a", 0}, stuck{"a || || b", 5}, stuck{"a +", 3}, stuck{"+ a", 0}, stuck{"a + + b", 4}, stuck{"a *", 3}, stuck{"* a", 0}, stuck{"a * * b", 4}, stuck{"a * / b", 4}, stuck{"a - * b", 4}, stuck{"a +* b", 3}, stuck{"% a", 0}, stuck{"a % % b", 4},
		stuck{"null null", 5}, stuck{"true 1", 5}, stuck{"a 'x'", 2}, stuck{"'x' a", 4}, stuck{"a case when p then 1 end", 2}, stuck{"a length(b)", 2}, stuck{"a (b)", 0}, stuck{"1 (b)", 2}, stuck{"a foo(", 2},
	)
}

var functions = map[string][2]int{"length": {1, 1}, "abs": {1, 1}, "upper": {1, 1}, "lower": {1, 1}, "nullif": {2, 2}, "substr": {3, 3}, "coalesce": {1, 60}, "greatest": {1, 60}, "least": {1, 60}}

func TestX1Functions(t *testing.T) {
	for f, bounds := range functions {
		for n := range 61 {
			whole := f + "(" + strings.TrimPrefix(strings.Repeat(", a", n), ", ") + ")"
			blank := strings.Replace(whole, "(", "  (", 1)
			last := len(whole) - 1
			switch {
			case n == 0: // no argument begins with the bracket
				wantStuck(t, stuck{whole, last}, stuck{"1 + " + blank, 4 + last + 2})
			case n >= bounds[0] && n <= bounds[1]:
				wantPrint(t, whole, whole, blank, whole, "1 + "+blank, "1 + "+whole)
			default: // told when the closing bracket is met, not ahead of it
				wantStuck(t, stuck{whole, 0}, stuck{"1 + " + blank, 4}, stuck{whole + " +", 0}, stuck{whole + ")", 0}, stuck{"(" + whole, 1})
				wantStuck(t, stuck{whole[:last], last}, stuck{whole[:last] + " ]", last + 1}, stuck{whole[:last] + ",)", last + 1}, stuck{whole[:last] + " b)", last + 1})
				wantStuck(t, stuck{whole[:last] + ", foo(1))", last + 2})
				wantRefused(t, whole[:last]+", 9223372036854775808)", api.ErrExprRange, last+2)
			}
		}
		wantSame(t, f, f+" + 1", f+"("+expandTo(f, bounds[0])+")") // a name and a function of one word
		wantStuck(t, stuck{f + "(", len(f) + 1}, stuck{f + "(1", len(f) + 2}, stuck{f + "(1,", len(f) + 3}, stuck{f + "(1 2", len(f) + 3}, stuck{f + " 1", len(f) + 1}, stuck{f + "(1,,", len(f) + 3}, stuck{f + "(,", len(f) + 1})
	}
}

// expandTo is so many arguments of one word.
func expandTo(word string, n int) string {
	return strings.TrimPrefix(strings.Repeat(", "+word, n), ", ")
}

// TestX1NoFunctions: a word that is none is told at its bracket, ahead of all behind that.
func TestX1NoFunctions(t *testing.T) {
	for _, f := range []string{"foo", "a", "count", "lengt", "length1", "absabs", "concat", "max", "abcdefghijklmnop", "or_", "substring"} {
		for _, behind := range []string{"(", "()", "(1)", "(1, 2)", "  (1)", " (", "(]", "('", "(99999999999999999999)", "(foo(1))", "(1"} {
			wantStuck(t, stuck{f + behind, 0}, stuck{"1 + " + f + behind, 4}, stuck{"abs(1, " + f + behind, 7}, stuck{"1 " + f + behind, 2})
		}
		wantSame(t, f, "-("+f+")")
		wantStuck(t, stuck{f + ")", len(f)}, stuck{f + " '(", len(f) + 1}, stuck{f + "](1)", len(f)})
	}
	wantStuck(t, stuck{"abs(foo(1), 2)", 4}, stuck{"abs(nullif(1), 2)", 4}, stuck{"abs(nullif(1, 2), 3)", 0}, stuck{"nullif(abs(1, 2), foo(1))", 7}, stuck{"abs(1, 2) + foo(1)", 0}, stuck{"(abs(1, 2) 3", 1}, stuck{"substr(a, b) +", 0}, stuck{"Abs(1)", 0}, stuck{"aBs(1)", 1})
}

// TestX1EveryByte: at the beginning, at the end, within, alone; those that begin a token are those that the chapter names.
func TestX1EveryByte(t *testing.T) {
	const signs = "(),+-*/%=<>"
	for b := range 256 {
		s := string([]byte{byte(b)})
		letter := b >= 'a' && b <= 'z'
		digit := b >= '0' && b <= '9'
		switch {
		case letter || digit:
			wantSame(t, s, "a = "+s)
		case s == " ":
			wantStuck(t, stuck{s, 1})
		case s == "(" || s == "-": // something may go on with it
			wantStuck(t, stuck{s, 1}, stuck{"1 +" + s, 4})
		default:
			wantStuck(t, stuck{s, 0}, stuck{s + "1", 0}, stuck{"  " + s, 2}, stuck{"1 +" + s, 3}, stuck{"1 +" + s + "1", 3})
		}
		if !letter && !digit && s != " " && s != "_" && !strings.Contains(signs, s) && s != "|" && s != "'" {
			wantStuck(t, stuck{"a" + s, 1}, stuck{"a " + s + " b", 2}, stuck{"1" + s, 1}, stuck{"'a'" + s, 3}, stuck{"(1)" + s, 3}, stuck{"a <" + s, 3}, stuck{"a |" + s, 2}, stuck{"not" + s, 3}, stuck{"abs(1" + s, 5})
		}
	}
	for _, s := range []string{"é", "世", "𝄞", "\xc3", "\xe4\xb8", "\xed\xa0\x80", "\xf5\x80", "\xc0\x80", "\ufffd", "\u212a", "ſ", "а", "０"} {
		wantStuck(t, stuck{s, 0}, stuck{s + s, 0}, stuck{"a" + s, 1}, stuck{"a + " + s, 4}, stuck{"a + b " + s + "c", 6}, stuck{"'" + s + "'", 0}, stuck{"'a' || '" + s + "' || 'b'", 7}, stuck{s + "(1)", 0}, stuck{"1" + s + "1", 1})
	}
}

// deep is an expression of a depth, whose innermost part is that.
func deep(depth int, innermost string) string { return strings.Repeat("not ", depth-1) + innermost }

// TestX1Depth: all that has parts is one more than the deepest of them, whichever that is.
func TestX1Depth(t *testing.T) {
	for _, way := range []string{
		"not #", "-(#)", "(#) + 1", "1 - (#)", "(#) * 1", "1 / (#)", "1 % (#)", "(#) || 'x'", "'x' || (#)", "(#) and p", "p and (#)", "(#) or p", "p or (#)",
		"(#) = 1", "1 <> (#)", "1 < (#)", "(#) <= 1", "1 > (#)", "(#) >= 1", "(#) is null", "(#) is not null", "(#) in (1)", "1 in (#)", "1 not in (2, #, 3)", "(#) not in (1)", "(#) between 1 and 2", "1 between (#) and 2", "1 between 2 and (#)", "(#) not between 1 and 2", "1 not between 2 and (#)", "(#) like 'x'", "'x' like (#)", "'x' not like (#)",
		"length(#)", "abs(#)", "upper(#)", "lower(#)", "nullif(#, 1)", "nullif(1, #)", "substr(#, 2, 3)", "substr(1, #, 3)", "substr(1, 2, #)", "coalesce(#)", "coalesce(1, #, 2)", "greatest(1, #)", "least(#, 1)",
		"case when # then 1 end", "case when p then # end", "case when p then 1 else # end", "case when p then 1 when # then 2 end", "case when p then 1 when q then # else 2 end",
	} {
		in := func(s string) string { return strings.Replace(way, "#", s, 1) }
		parsed(t, in(deep(19, "p")))
		wantRefused(t, in(deep(20, "p")), api.ErrExprDeep, 0)
		parsed(t, in(in(deep(18, "p"))))
		wantRefused(t, in(in(deep(19, "p"))), api.ErrExprDeep, 0)
		wantRefused(t, deep(20, "("+in("p")+")"), api.ErrExprDeep, 0)
		parsed(t, deep(19, "("+in("p")+")"))
		wantStuck(t, stuck{in(deep(20, "p")) + ")", len(in(deep(20, "p")))}) // what is no expression is told first
		wantRefused(t, in(deep(20, "99999999999999999999")), api.ErrExprRange, strings.Index(in(deep(20, "99999999999999999999")), "9999"))
	}
	for _, s := range []string{"5", "-5", "- 5", "'x'", "null", "true", "false", "a", "((((((a))))))", "length"} {
		parsed(t, deep(20, s))
		wantRefused(t, deep(21, s), api.ErrExprDeep, 0)
	}
	wantRefused(t, deep(20, "-(5)"), api.ErrExprDeep, 0)
	parsed(t, deep(19, "-(5)"))
}

// TestX1DeepRows: what an operator holds together from the left is deeper with each part more.
func TestX1DeepRows(t *testing.T) {
	for _, o := range []string{" or ", " and ", "||", "+", "-", "*", "/", "%", "- -"} {
		for n := 1; n <= 60; n++ {
			row := strings.TrimSuffix(strings.Repeat("1"+o, n), o)
			if n <= api.MaxNest {
				parsed(t, row)
			} else {
				wantRefused(t, row, api.ErrExprDeep, 0)
			}
			wantStuck(t, stuck{row + o, len(row + o)})
		}
	}
	parsed(t, "coalesce("+strings.TrimPrefix(strings.Repeat(",a", 190), ",")+")")
	parsed(t, "a in ("+strings.TrimPrefix(strings.Repeat(",-1", 130), ",")+")")
	parsed(t, "case"+strings.Repeat(" when p then 1", 27)+" end")
	parsed(t, strings.Repeat("(", 150)+"1"+strings.Repeat(")", 150))
}

// TestX1FirstError: the first one that is met, from the left.
func TestX1FirstError(t *testing.T) {
	wantStuck(t, stuck{"1 2 99999999999999999999", 2}, stuck{"1 99999999999999999999", 2}, stuck{"foo(99999999999999999999)", 0}, stuck{"] 'a", 0}, stuck{"'a ]", 0}, stuck{"a b 'c", 2}, stuck{"1 + ) 99999999999999999999", 4}, stuck{"abs(1, 2) 99999999999999999999", 0})
	for _, c := range []stuck{{"99999999999999999999 2", 0}, {"99999999999999999999 'a", 0}, {"99999999999999999999]", 0}, {"abs(99999999999999999999, 2)", 4}, {"1 + 99999999999999999999 foo(1)", 4}, {"-99999999999999999999 -", 1}, {"99999999999999999999(", 0}, {"(99999999999999999999", 1}} {
		wantRefused(t, c.text, api.ErrExprRange, c.place)
	}
	wantRefused(t, deep(30, "p")+" and 99999999999999999999", api.ErrExprRange, len(deep(30, "p"))+5)
	wantRefused(t, deep(30, "p")+" ]", api.ErrExprForm, len(deep(30, "p"))+1)
}
