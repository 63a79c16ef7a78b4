package value_test

import (
	"math"
	"math/rand"
	"slices"
	"strings"
	"testing"

	"confluence/api"
	"confluence/value"
)

// encodings are rows and their bytes, written down by hand.
var encodings = []struct {
	row api.Row
	s   string
}{
	{nil, "\x00"},
	{api.Row{null}, "\x01\x00"},
	{api.Row{no}, "\x01\x03"},
	{api.Row{yes}, "\x01\x04"},
	{api.Row{number(0)}, "\x01\x01\x00"},
	{api.Row{number(-1)}, "\x01\x01\x01"},
	{api.Row{number(1)}, "\x01\x01\x02"},
	{api.Row{number(-64)}, "\x01\x01\x7f"},
	{api.Row{number(64)}, "\x01\x01\x80\x01"},
	{api.Row{number(math.MaxInt)}, "\x01\x01\xfe" + strings.Repeat("\xff", 8) + "\x01"},
	{api.Row{number(math.MinInt)}, "\x01\x01" + strings.Repeat("\xff", 9) + "\x01"},
	{api.Row{text("")}, "\x01\x02\x00"},
	{api.Row{text("\x00\xff")}, "\x01\x02\x02\x00\xff"},
	{api.Row{text(full[:127])}, "\x01\x02\x7f" + full[:127]},
	{api.Row{text(full[:128])}, "\x01\x02\x80\x01" + full[:128]},
	{api.Row{text(full)}, "\x01\x02\xc8\x01" + full},
	{api.Row{number(5), null, text("a"), yes}, "\x04\x01\x0a\x00\x02\x01a\x04"},
	{slices.Repeat(api.Row{null}, 8), "\x08" + strings.Repeat("\x00", 8)},
	{api.Row{yes, no, yes, no, yes, no, text("\x04"), number(3)}, "\x08\x04\x03\x04\x03\x04\x03\x02\x01\x04\x01\x06"},
	{slices.Repeat(api.Row{text(full)}, 8), "\x08" + strings.Repeat("\x02\xc8\x01"+full, 8)},
}

func TestV4Bytes(t *testing.T) {
	for _, c := range encodings {
		if s, e := value.Encode(c.row); s != c.s || e != api.OK {
			t.Errorf("Encode(%.80v) = %.80x, %d, want %.80x", c.row, s, e, c.s)
		}
		if r, e := value.Decode(c.s); !slices.Equal(r, c.row) || e != api.OK {
			t.Errorf("Decode(%.80x) = %.80v, %d", c.s, r, e)
		}
	}
}

func wantNoBytes(t *testing.T, what string, r api.Row, want api.Errno) {
	t.Helper()
	if s, e := value.Encode(r); s != "" || e != want {
		t.Errorf("%s: Encode = %.40x, %d, want %d", what, s, e, want)
	}
}

func TestV4RowsThatMayNotBe(t *testing.T) {
	for want, l := range wrongs() {
		for _, v := range l {
			for k := range api.MaxColumns {
				r := slices.Repeat(api.Row{number(5)}, api.MaxColumns)
				r[k] = v
				wantNoBytes(t, "one wrong value", r, want)
				wantNoBytes(t, "the last one", r[:k+1], want)
			}
			wantNoBytes(t, "too wide besides", append(slices.Clone(noRow), v), api.ErrValueWide)
		}
	}
	wantNoBytes(t, "nine", noRow, api.ErrValueWide)
	wantNoBytes(t, "nine wrong ones", slices.Repeat(api.Row{{Kind: 9}}, 9), api.ErrValueWide)
	wantNoBytes(t, "256", slices.Repeat(api.Row{null}, 256), api.ErrValueWide)
	wantNoBytes(t, "257", slices.Repeat(api.Row{null}, 257), api.ErrValueWide)
	wantNoBytes(t, "formless, then long", api.Row{null, {Kind: api.Bool, N: 2}, text(long)}, api.ErrValueForm)
	wantNoBytes(t, "long, then formless", api.Row{null, text(long), {Kind: api.Bool, N: 2}}, api.ErrValueLong)
	wantNoBytes(t, "formless and long at once", api.Row{{Kind: api.Text, N: 1, S: long}}, api.ErrValueForm)
}

func wantNoRow(t *testing.T, what, s string) {
	t.Helper()
	if r, e := value.Decode(s); len(r) != 0 || e != api.ErrValueForm {
		t.Errorf("%s: Decode(%.40x) = %.40v, %d", what, s, r, e)
	}
}

func TestV4BytesOfNoRow(t *testing.T) {
	for what, s := range map[string]string{
		"nothing":                    "",
		"no value":                   "\x01",
		"one value too few":          "\x02\x00",
		"one value too many":         "\x01\x00\x00",
		"a byte behind an empty row": "\x00\x00",
		"nine values":                "\x09" + strings.Repeat("\x00", 9),
		"255 values":                 "\xff" + strings.Repeat("\x00", 255),
		"a mark that is none":        "\x01\x05",
		"another one":                "\x01\xff",
		"a mark that is none, later": "\x03\x00\x05\x00",
		"an Int without bytes":       "\x01\x01",
		"half an Int":                "\x01\x01\x80",
		"an Int by too many bytes":   "\x01\x01\x80\x00",
		"another one of these":       "\x01\x01\x8a\x80\x00",
		"an Int that is too great":   "\x01\x01" + strings.Repeat("\xff", 9) + "\x02",
		"an Int without an end":      "\x01\x01" + strings.Repeat("\xff", 20),
		"a Text without a length":    "\x01\x02",
		"a Text without bytes":       "\x01\x02\x01",
		"a Text that is not whole":   "\x01\x02\x02a",
		"a Text behind it":           "\x01\x02\x01ab",
		"a length by too many bytes": "\x01\x02\x81\x00a",
		"a length without an end":    "\x01\x02" + strings.Repeat("\xff", 20),
		"201 bytes":                  "\x01\x02\xc9\x01" + long,
		"201 bytes, not whole":       "\x01\x02\xc9\x01" + full,
		"a row behind a row":         "\x01\x00\x01\x00",
	} {
		wantNoRow(t, what, s)
	}
}

func TestV4Beginnings(t *testing.T) {
	for _, c := range encodings {
		for n := range len(c.s) {
			wantNoRow(t, "a beginning", c.s[:n])
		}
		for b := range 256 {
			wantNoRow(t, "a byte behind it", c.s+string([]byte{byte(b)}))
		}
	}
}

// TestV4AnyBytes: what is decoded is encoded as the same bytes again: so no other bytes are taken.
func TestV4AnyBytes(t *testing.T) {
	source := rand.New(rand.NewSource(43))
	taken := 0
	for range 200000 {
		out := []byte{byte(source.Intn(4))}
		for range source.Intn(9) {
			if out = append(out, byte(source.Intn(6))); source.Intn(4) == 0 {
				out[len(out)-1] = byte(source.Intn(256))
			}
		}
		s := string(out)
		r, e := value.Decode(s)
		if e != api.OK {
			wantNoRow(t, "any bytes", s)
			continue
		}
		taken++
		if again, f := value.Encode(r); again != s || f != api.OK {
			t.Fatalf("Decode(%x) = %+v, which is encoded as %x, %d", s, r, again, f)
		}
	}
	if taken < 1000 {
		t.Errorf("only %d rows among any bytes", taken)
	}
}

// TestV4AllShortBytes: of all texts of two bytes, and of three that begin with 1, just those are rows that the chapter says.
func TestV4AllShortBytes(t *testing.T) {
	rows := map[string]bool{"\x00": true, "\x01\x00": true, "\x01\x03": true, "\x01\x04": true, "\x01\x02\x00": true, "\x02\x00\x00": true}
	for _, a := range []string{"\x00", "\x03", "\x04"} {
		for _, b := range []string{"\x00", "\x03", "\x04"} {
			rows["\x02"+a+b] = true
		}
	}
	for b := range 128 {
		rows["\x01\x01"+string(rune(b))] = true
	}
	hold := func(l ...byte) {
		s := string(l)
		if _, e := value.Decode(s); (e == api.OK) != rows[s] || e != api.OK && e != api.ErrValueForm {
			t.Errorf("Decode(%x): %d", s, e)
		}
	}
	hold()
	for a := range 256 {
		hold(byte(a))
		for b := range 256 {
			hold(byte(a), byte(b))
			for c := range 256 {
				if a < 3 {
					hold(byte(a), byte(b), byte(c))
				}
			}
		}
	}
}

func TestRowsAreNotWrittenInto(t *testing.T) {
	room := slices.Repeat(api.Row{text("room")}, 12)
	copy(room, api.Row{number(5), null, text("a")})
	before := slices.Clone(room)
	r := room[:3]
	s, e := value.Encode(r)
	is(t, "Encode", e, api.OK)
	value.Same(r, room)
	if !slices.Equal(room, before) {
		t.Errorf("the row, or its spare room, was written into: %+v", room)
	}
	first, _ := value.Decode(s)
	second, _ := value.Decode(s)
	first[0] = text("mine")
	_ = append(first, text("mine"))
	if !slices.Equal(second, r) {
		t.Errorf("two rows share memory: %+v", second)
	}
	if third, _ := value.Decode(s); !slices.Equal(third, r) {
		t.Errorf("a row that came out was kept: %+v", third)
	}
	room[0] = text("other")
	if again, _ := value.Decode(s); !slices.Equal(again, before[:3]) {
		t.Errorf("a row that went in was kept: %+v", again)
	}
}
