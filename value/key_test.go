package value_test

import (
	"math"
	"strings"
	"testing"

	"confluence/api"
	"confluence/value"
)

// keys are values and their keys, written down by hand.
var keys = []struct {
	v api.Value
	s string
}{
	{null, "\x01"}, {no, "\x02\x00"}, {yes, "\x02\x01"},
	{number(0), "\x03\x80\x00\x00\x00\x00\x00\x00\x00"},
	{number(1), "\x03\x80\x00\x00\x00\x00\x00\x00\x01"},
	{number(-1), "\x03\x7f\xff\xff\xff\xff\xff\xff\xff"},
	{number(-2), "\x03\x7f\xff\xff\xff\xff\xff\xff\xfe"},
	{number(256), "\x03\x80\x00\x00\x00\x00\x00\x01\x00"},
	{number(0x0123456789abcdef), "\x03\x81\x23\x45\x67\x89\xab\xcd\xef"},
	{number(math.MinInt), "\x03\x00\x00\x00\x00\x00\x00\x00\x00"},
	{number(math.MinInt + 1), "\x03\x00\x00\x00\x00\x00\x00\x00\x01"},
	{number(math.MaxInt), "\x03\xff\xff\xff\xff\xff\xff\xff\xff"},
	{text(""), "\x04"}, {text("a"), "\x04a"}, {text("\x00"), "\x04\x00"}, {text("\xff"), "\x04\xff"}, {text("a\x00b"), "\x04a\x00b"}, {text("'\\"), "\x04'\\"}, {text(full), "\x04" + full},
}

func TestV7Key(t *testing.T) {
	for _, c := range keys {
		if s, e := value.Key(c.v); s != c.s || e != api.OK {
			t.Errorf("Key(%+v) = %x, %d, want %x", c.v, s, e, c.s)
		}
		if v, e := value.Unkey(c.s); v != c.v || e != api.OK {
			t.Errorf("Unkey(%x) = %+v, %d, want %+v", c.s, v, e, c.v)
		}
	}
}

func TestV7ValuesWithoutKey(t *testing.T) {
	for want, l := range wrongs() {
		for _, v := range l {
			if s, e := value.Key(v); s != "" || e != want {
				t.Errorf("Key(%.40v) = %.40x, %d, want %d", v, s, e, want)
			}
		}
	}
}

func wantNoValue(t *testing.T, s string, want api.Errno) {
	t.Helper()
	if v, e := value.Unkey(s); v != null || e != want {
		t.Errorf("Unkey(%.40x) = %.40v, %d, want %d", s, v, e, want)
	}
}

func TestV7BytesOfNoKey(t *testing.T) {
	eight := strings.Repeat("\x80", 8)
	for _, s := range []string{
		"", "\x00", "\x05", "\xff", "\x00a", "\x05a", "\x01\x00", "\x01\x01", "\x01a",
		"\x02", "\x02\x02", "\x02\xff", "\x02\x00\x00", "\x02\x01\x00", "\x02\x00\x01", "\x02" + long,
		"\x03", "\x03" + eight[1:], "\x03" + eight + "\x00", "\x03" + eight + eight, "\x03" + long,
		"\x00" + long, "\x01" + long, "\x05" + long, "\x05" + full, eight,
	} {
		wantNoValue(t, s, api.ErrValueForm)
	}
	for _, s := range []string{long, full + "\x00", strings.Repeat("\xff", 201), strings.Repeat("\x00", 202), strings.Repeat("x", 100000)} {
		wantNoValue(t, "\x04"+s, api.ErrValueLong)
	}
}

// TestV7AllLengths: of each first byte and each length, what the chapter says.
func TestV7AllLengths(t *testing.T) {
	for first := range 256 {
		for n := range 205 {
			for _, fill := range []string{"\x00", "\x01", "\x02", "\xff"} {
				s := string([]byte{byte(first)}) + strings.Repeat(fill, n)
				want := api.ErrValueForm
				switch {
				case first == 1 && n == 0, first == 2 && n == 1 && fill < "\x02", first == 3 && n == 8, first == 4 && n <= 200:
					want = api.OK
				case first == 4:
					want = api.ErrValueLong
				}
				v, e := value.Unkey(s)
				if e != want {
					t.Fatalf("Unkey(%x) = %+v, %d, want %d", s, v, e, want)
				}
				if again, f := value.Key(v); e == api.OK && (again != s || f != api.OK) {
					t.Fatalf("Unkey(%x) = %+v, whose key is %x, %d", s, v, again, f)
				}
			}
		}
	}
}
