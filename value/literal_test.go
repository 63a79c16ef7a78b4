package value_test

import (
	"math"
	"math/rand"
	"strings"
	"testing"

	"confluence/api"
	"confluence/value"
)

// literals are values and how they are printed, written down by hand.
var literals = []struct {
	v api.Value
	s string
}{
	{null, "null"}, {yes, "true"}, {no, "false"},
	{number(0), "0"}, {number(5), "5"}, {number(-5), "-5"}, {number(10), "10"}, {number(-100), "-100"},
	{number(math.MaxInt), "9223372036854775807"}, {number(math.MinInt), "-9223372036854775808"}, {number(math.MaxInt - 1), "9223372036854775806"},
	{text(""), `''`}, {text("a"), `'a'`}, {text("it's"), `'it''s'`}, {text("'"), `''''`}, {text("''"), `''''''`},
	{text(`\`), `'\5c'`}, {text(`\5c`), `'\5c5c'`}, {text(`\\`), `'\5c\5c'`}, {text(`'\`), `'''\5c'`}, {text(`\'`), `'\5c'''`},
	{text("\x00"), `'\00'`}, {text("\n"), `'\0a'`}, {text("\x1f"), `'\1f'`}, {text(" "), `' '`}, {text("~"), `'~'`}, {text("\x7f"), `'\7f'`}, {text("\x80"), `'\80'`}, {text("\xff"), `'\ff'`},
	{text("a\x00b"), `'a\00b'`}, {text("\x00\xff"), `'\00\ff'`}, {text("\xabcd"), `'\abcd'`}, {text("é"), `'\c3\a9'`}, {text("\"`"), "'\"`'"},
	{text("null"), `'null'`}, {text("5"), `'5'`}, {text("?"), `'?'`}, {text("NULL"), `'NULL'`},
	{text(full), "'" + full + "'"},
	{text(strings.Repeat("'", 200)), strings.Repeat("'", 402)},
	{text(strings.Repeat("\x00", 200)), "'" + strings.Repeat(`\00`, 200) + "'"},
}

func TestV5Print(t *testing.T) {
	for _, c := range literals {
		if s := value.Print(c.v); s != c.s {
			t.Errorf("Print(%+v) = %s, want %s", c.v, s, c.s)
		}
	}
}

func TestV5EveryByte(t *testing.T) {
	const signs = "0123456789abcdef"
	for b := range 256 {
		want := `\` + signs[b>>4:b>>4+1] + signs[b&15:b&15+1]
		switch {
		case b == 39:
			want = "''"
		case b >= 32 && b <= 126 && b != 92:
			want = string(rune(b))
		}
		for _, ends := range [][2]string{{"", ""}, {"x", ""}, {"", "5"}, {"a", "a"}} {
			v := text(ends[0] + string([]byte{byte(b)}) + ends[1])
			s := "'" + ends[0] + want + ends[1] + "'"
			if got := value.Print(v); got != s {
				t.Errorf("the byte %d is printed as %s, want %s", b, got, s)
			}
			wantParsed(t, s, v)
		}
	}
}

func TestV5NotRight(t *testing.T) {
	for _, l := range wrongs() {
		for _, v := range l {
			if s := value.Print(v); s != "?" {
				t.Errorf("Print(%.40v) = %.40s", v, s)
			}
		}
	}
}

func wantParsed(t *testing.T, s string, want api.Value) {
	t.Helper()
	if v, e := value.Parse(s); v != want || e != api.OK {
		t.Errorf("Parse(%s) = %+v, %d, want %+v", s, v, e, want)
	}
}

func wantNotParsed(t *testing.T, s string, want api.Errno) {
	t.Helper()
	if v, e := value.Parse(s); v != null || e != want {
		t.Errorf("Parse(%.60q) = %.60v, %d, want %d", s, v, e, want)
	}
}

func TestV6Parse(t *testing.T) {
	for _, c := range literals {
		wantParsed(t, c.s, c.v)
	}
}

func TestV6NearlyRight(t *testing.T) {
	for _, s := range []string{
		"", " ", "?", "'?", "x",
		"NULL", "Null", "nul", "nulll", " null", "null ", "null\x00", "true ", "True", "TRUE", "tru", "t", "1b", "fals", "falsee", "nil", "nulltrue", "''null",
		"-", "--5", "+5", "+0", "-0", "00", "05", "-05", "007", " 5", "5 ", "5\n", "5\x00", "1_000", "0x10", "0b1", "0o7", "1e3", "5.0", "5.", ".5", "٣", "１", "5a", "- 5", "1,000", "−5", "5-", "5'", "''5",
		"9223372036854775808", "-9223372036854775809", "9223372036854775810", "18446744073709551615", "18446744073709551616", "09223372036854775807", "99999999999999999999", strings.Repeat("9", 5000), "-" + strings.Repeat("1", 5000), strings.Repeat("0", 300), "Inf", "NaN",
		"'", "'a", "a'", "'''", "'''''", "'a''", "''a'", "'a'b'", "'a''b", "'a' ", " 'a'", "''''a", "'a'''b'x", "'' ''", "\"a\"", "`a`",
		`'\41'`, `'\20'`, `'\27'`, `'\7e'`, `'\5C'`, `'\0A'`, `'\0a`, `'\FF'`, `'\fF'`, `'\0'`, `'\'`, `'\`, `'\\'`, `'\n'`, `'\''`, `'\0''`, `'\g0'`, `'\0g'`, `'\ 0'`, `'\/0'`, `'\:0'`, `'\0x'`, `'\x00'`, `'\-1'`, `'\'''`,
		"'\n'", "'\x00'", "'\x1f'", "'\x7f'", "'\x80'", "'\xff'", "'é'", "'a\x00'",
	} {
		wantNotParsed(t, s, api.ErrValueForm)
	}
}

func TestV6Long(t *testing.T) {
	for _, body := range []string{
		long, strings.Repeat("''", 201), strings.Repeat(`\00`, 201), full + "''", "''" + full, full + `\5c`, full[1:] + "''" + `\ff`, strings.Repeat("x", 100000),
	} {
		wantNotParsed(t, "'"+body+"'", api.ErrValueLong)
		wantNotParsed(t, "'"+body, api.ErrValueForm)
		wantNotParsed(t, body+"'", api.ErrValueForm)
		wantNotParsed(t, "'"+body+"'x", api.ErrValueForm)
		for _, bad := range []string{"'", `\41`, `\5C`, `\`, `\0`, "\n", "\x80"} {
			wantNotParsed(t, "'"+body+bad+"'", api.ErrValueForm)
			wantNotParsed(t, "'"+bad+body+"'", api.ErrValueForm)
		}
	}
	wantNotParsed(t, "'"+strings.Repeat(`\41`, 200)+"'", api.ErrValueForm)
	wantNotParsed(t, long, api.ErrValueForm)
}

// TestV6AllShortTexts: each text of some signs, up to six of them, is parsed just if it is printed.
func TestV6AllShortTexts(t *testing.T) {
	const signs = "'\\05ac-A\n"
	all := []string{""}
	taken := 0
	for range 6 {
		var longer []string
		for _, s := range all {
			for _, b := range signs {
				longer = append(longer, s+string(b))
			}
		}
		for _, s := range longer {
			v, e := value.Parse(s)
			switch {
			case e == api.OK && value.Print(v) == s:
				taken++
			case e != api.ErrValueForm || v != null:
				t.Fatalf("Parse(%q) = %+v, %d, which is printed as %s", s, v, e, value.Print(v))
			case readsAsText(s) || readsAsInt(s):
				t.Fatalf("Parse(%q) = %d, but a value is printed so", s, e)
			}
		}
		all = longer
	}
	if taken < 1000 {
		t.Errorf("only %d literals among all", taken)
	}
}

// readsAsText tells by a plain walk over it whether a text of printed bytes is s.
func readsAsText(s string) bool {
	if len(s) < 2 || s[0] != '\'' || s[len(s)-1] != '\'' {
		return false
	}
	for in := s[1 : len(s)-1]; in != ""; {
		switch {
		case strings.HasPrefix(in, "''"):
			in = in[2:]
		case len(in) >= 3 && (in[:3] == `\5c` || in[:2] == `\0` && strings.Contains("05ac", in[2:3]) || in[:2] == `\a` && strings.Contains("05ac", in[2:3]) || in[:2] == `\c` && strings.Contains("05ac", in[2:3])):
			in = in[3:]
		case strings.Contains("05ac-A", in[:1]):
			in = in[1:]
		default:
			return false
		}
	}
	return true
}

func readsAsInt(s string) bool {
	if s == "0" {
		return true
	}
	s = strings.TrimPrefix(s, "-")
	return s != "" && s[0] == '5' && strings.Trim(s, "05") == ""
}

func TestV6AnyBytes(t *testing.T) {
	source := rand.New(rand.NewSource(44))
	for range 20000 {
		s := randomText(source, 12)
		if source.Intn(2) == 0 {
			s = "'" + s + "'"
		}
		v, e := value.Parse(s)
		switch {
		case e == api.OK && value.Print(v) != s:
			t.Fatalf("Parse(%q) = %+v, which is printed as %s", s, v, value.Print(v))
		case e != api.OK && (e != api.ErrValueForm || v != null):
			t.Fatalf("Parse(%q) = %+v, %d", s, v, e)
		}
	}
}
