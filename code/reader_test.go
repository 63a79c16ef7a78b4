package code_test

import (
	"math"
	"math/big"
	"math/rand"
	"strings"
	"testing"

	"confluence/api"
	"confluence/code"
)

// reading is a call of a Reader and what it must answer.
type reading struct {
	what, s string
	call    func(r *code.Reader) (int, string)
	n       int
	text    string
	e       api.Errno
	at      int
}

func readByte(r *code.Reader) (int, string) { return r.Byte(), "" }
func readVar(r *code.Reader) (int, string)  { return r.Var(), "" }
func readInt(r *code.Reader) (int, string)  { return r.Int(), "" }

func readText(most int) func(r *code.Reader) (int, string) {
	return func(r *code.Reader) (int, string) { return 0, r.Text(most) }
}

func readRaw(n int) func(r *code.Reader) (int, string) {
	return func(r *code.Reader) (int, string) { return 0, r.Raw(n) }
}

func (c reading) hold(t *testing.T) {
	t.Helper()
	r := code.NewReader(c.s)
	n, text := c.call(r)
	for range 2 {
		e, at := r.Done()
		if n != c.n || text != c.text || e != c.e || at != c.at || r.Left() != len(c.s)-c.at {
			t.Errorf("%s of %x: %d, %q, %d, %d, left %d, want %d, %q, %d, %d", c.what, c.s, n, text, e, at, r.Left(), c.n, c.text, c.e, c.at)
		}
	}
	c.holdBehindAFault(t)
}

// holdBehindAFault reads the same with bytes ahead of it and behind it, and then goes on by every call.
func (c reading) holdBehindAFault(t *testing.T) {
	t.Helper()
	if c.e == api.OK || c.e == api.ErrCodeMore {
		return
	}
	r := code.NewReader("ab" + c.s)
	r.Raw(2)
	c.call(r)
	if r.Byte() != 0 || r.Var() != 0 || r.Int() != 0 || r.Text(9) != "" || r.Text(-1) != "" || r.Raw(0) != "" || r.Raw(1) != "" || r.Raw(-1) != "" || r.Raw(1<<40) != "" {
		t.Errorf("%s of %x: something is answered behind the fault", c.what, c.s)
	}
	if e, at := r.Done(); e != c.e || at != c.at+2 || r.Left() != len(c.s)-c.at {
		t.Errorf("%s of %x: behind the fault %d, %d, left %d", c.what, c.s, e, at, r.Left())
	}
}

func TestC4Byte(t *testing.T) {
	for n := range 256 {
		reading{"Byte", string([]byte{byte(n)}), readByte, n, "", api.OK, 1}.hold(t)
	}
	reading{"Byte", "", readByte, 0, "", api.ErrCodeShort, 0}.hold(t)
	reading{"Byte", "ab", readByte, 'a', "", api.ErrCodeMore, 1}.hold(t)
}

func TestC4Var(t *testing.T) {
	full := strings.Repeat("\xff", 12)
	none := strings.Repeat("\x80", 12)
	for _, c := range []reading{
		{"Var", "\x00", readVar, 0, "", api.OK, 1},
		{"Var", "\xac\x02", readVar, 300, "", api.OK, 2},
		{"Var", "\x00\x00", readVar, 0, "", api.ErrCodeMore, 1},
		{"Var", "", readVar, 0, "", api.ErrCodeShort, 0},
		{"Var", "\x80", readVar, 0, "", api.ErrCodeShort, 0},
		{"Var", full[:8], readVar, 0, "", api.ErrCodeShort, 0},
		{"Var", full[:8] + "\x7f", readVar, math.MaxInt, "", api.OK, 9},
		{"Var", full[:8] + "\x80", readVar, 0, "", api.ErrCodeRange, 0},
		{"Var", full[:9], readVar, 0, "", api.ErrCodeRange, 0},
		{"Var", full, readVar, 0, "", api.ErrCodeRange, 0},
		{"Var", none[:9] + "\x00", readVar, 0, "", api.ErrCodeRange, 0},
		{"Var", none[:8] + "\x00", readVar, 0, "", api.ErrCodeForm, 0},
		{"Var", none[:8] + "\x01", readVar, 1 << 56, "", api.OK, 9},
		{"Var", "\x80\x00", readVar, 0, "", api.ErrCodeForm, 0},
		{"Var", "\xff\x00\x01", readVar, 0, "", api.ErrCodeForm, 0},
	} {
		c.hold(t)
	}
}

func TestC4Int(t *testing.T) {
	full := strings.Repeat("\xff", 12)
	none := strings.Repeat("\x80", 12)
	for _, c := range []reading{
		{"Int", "\x00", readInt, 0, "", api.OK, 1},
		{"Int", "\x01", readInt, -1, "", api.OK, 1},
		{"Int", "\x02", readInt, 1, "", api.OK, 1},
		{"Int", "\x03\x03", readInt, -2, "", api.ErrCodeMore, 1},
		{"Int", "", readInt, 0, "", api.ErrCodeShort, 0},
		{"Int", full[:9], readInt, 0, "", api.ErrCodeShort, 0},
		{"Int", full[:8] + "\x7f", readInt, -1 << 62, "", api.OK, 9},
		{"Int", full[:9] + "\x01", readInt, math.MinInt, "", api.OK, 10},
		{"Int", "\xfe" + full[:8] + "\x01", readInt, math.MaxInt, "", api.OK, 10},
		{"Int", full[:9] + "\x02", readInt, 0, "", api.ErrCodeRange, 0},
		{"Int", full[:9] + "\x7f", readInt, 0, "", api.ErrCodeRange, 0},
		{"Int", none[:10], readInt, 0, "", api.ErrCodeRange, 0},
		{"Int", none[:9] + "\x81\x00", readInt, 0, "", api.ErrCodeRange, 0},
		{"Int", full, readInt, 0, "", api.ErrCodeRange, 0},
		{"Int", full[:9] + "\x00", readInt, 0, "", api.ErrCodeForm, 0},
		{"Int", none[:9] + "\x01", readInt, 1 << 62, "", api.OK, 10},
		{"Int", "\x80\x00", readInt, 0, "", api.ErrCodeForm, 0},
	} {
		c.hold(t)
	}
}

// TestC4Rule holds Var and Int against the chapter's words, on texts near all of their edges.
func TestC4Rule(t *testing.T) {
	source := rand.New(rand.NewSource(1))
	bytes := []byte{0, 1, 2, 127, 128, 129, 255}
	for range 50000 {
		s := make([]byte, source.Intn(13))
		for i := range s {
			s[i] = byte(source.Intn(128) + 128)
			if source.Intn(8) == 0 || i+1 == len(s) {
				s[i] = bytes[source.Intn(len(bytes))]
			}
		}
		n, size, e := numberByRule(string(s), 9, 127)
		behind(reading{"Var", string(s), readVar, int(n.Int64()), "", e, size}).hold(t)
		n, size, e = numberByRule(string(s), 10, 1)
		if n.Bit(0) == 1 {
			n.Neg(n.Add(n, big.NewInt(1)))
		}
		behind(reading{"Int", string(s), readInt, int(n.Quo(n, big.NewInt(2)).Int64()), "", e, size}).hold(t)
	}
}

// behind asks for ErrCodeMore where a reading leaves bytes.
func behind(c reading) reading {
	if c.e == api.OK && c.at < len(c.s) {
		c.e = api.ErrCodeMore
	}
	return c
}

// numberByRule goes digit by digit, by numbers without a bound.
func numberByRule(s string, last int, top byte) (*big.Int, int, api.Errno) {
	n := new(big.Int)
	for place := 1; ; place++ {
		if len(s) < place {
			return new(big.Int), 0, api.ErrCodeShort
		}
		b := s[place-1]
		if place == last && b > top {
			return new(big.Int), 0, api.ErrCodeRange
		}
		digit := big.NewInt(int64(b & 127))
		n.Add(n, digit.Lsh(digit, uint(7*(place-1))))
		if b < 128 && b == 0 && place > 1 {
			return new(big.Int), 0, api.ErrCodeForm
		}
		if b < 128 {
			return n, place, api.OK
		}
	}
}

func TestC5Text(t *testing.T) {
	long := strings.Repeat("x", 300)
	great := strings.Repeat("\xff", 8) + "\x7f"
	for _, c := range []reading{
		{"Text", "\x00", readText(0), 0, "", api.OK, 1},
		{"Text", "\x02hi", readText(2), 0, "hi", api.OK, 3},
		{"Text", "\x02hi", readText(math.MaxInt), 0, "hi", api.OK, 3},
		{"Text", "\x02hi!", readText(2), 0, "hi", api.ErrCodeMore, 3},
		{"Text", "\x02\x00\xff", readText(2), 0, "\x00\xff", api.OK, 3},
		{"Text", "\xac\x02" + long, readText(300), 0, long, api.OK, 302},
		{"Text", "\xac\x02" + long, readText(299), 0, "", api.ErrCodeLong, 0},
		{"Text", "\xac\x02" + long[:299], readText(300), 0, "", api.ErrCodeShort, 0},
		{"Text", "\x02hi", readText(1), 0, "", api.ErrCodeLong, 0},
		{"Text", "\x02h", readText(1), 0, "", api.ErrCodeLong, 0},
		{"Text", "\x03hi", readText(3), 0, "", api.ErrCodeShort, 0},
		{"Text", "\x01", readText(1), 0, "", api.ErrCodeShort, 0},
		{"Text", "", readText(1), 0, "", api.ErrCodeShort, 0},
		{"Text", "\x80", readText(1), 0, "", api.ErrCodeShort, 0},
		{"Text", "\x80\x00", readText(1), 0, "", api.ErrCodeForm, 0},
		{"Text", great + "x", readText(math.MaxInt), 0, "", api.ErrCodeShort, 0},
		{"Text", great + "x", readText(math.MaxInt - 1), 0, "", api.ErrCodeLong, 0},
		{"Text", strings.Repeat("\xff", 9), readText(1), 0, "", api.ErrCodeRange, 0},
		{"Text", "\x02hi", readText(-1), 0, "", api.ErrArg, 0},
		{"Text", "", readText(-1), 0, "", api.ErrArg, 0},
		{"Text", "\x80\x00", readText(math.MinInt), 0, "", api.ErrArg, 0},
	} {
		c.hold(t)
	}
}

func TestC5Raw(t *testing.T) {
	for _, c := range []reading{
		{"Raw", "", readRaw(0), 0, "", api.OK, 0},
		{"Raw", "ab", readRaw(0), 0, "", api.ErrCodeMore, 0},
		{"Raw", "a\xff", readRaw(2), 0, "a\xff", api.OK, 2},
		{"Raw", "abc", readRaw(2), 0, "ab", api.ErrCodeMore, 2},
		{"Raw", "ab", readRaw(3), 0, "", api.ErrCodeShort, 0},
		{"Raw", "", readRaw(1), 0, "", api.ErrCodeShort, 0},
		{"Raw", "ab", readRaw(math.MaxInt), 0, "", api.ErrCodeShort, 0},
		{"Raw", "ab", readRaw(-1), 0, "", api.ErrArg, 0},
		{"Raw", "", readRaw(math.MinInt), 0, "", api.ErrArg, 0},
	} {
		c.hold(t)
	}
}

func TestC6LeftAndDone(t *testing.T) {
	r := code.NewReader("\x07\x01ab")
	for k, step := range []struct {
		call func(r *code.Reader) (int, string)
		e    api.Errno
		at   int
	}{
		{readRaw(0), api.ErrCodeMore, 0},
		{readByte, api.ErrCodeMore, 1},
		{readText(1), api.ErrCodeMore, 3},
		{readRaw(1), api.OK, 4},
		{readRaw(0), api.OK, 4},
		{readByte, api.ErrCodeShort, 4},
		{readRaw(-1), api.ErrCodeShort, 4},
	} {
		step.call(r)
		for range 2 {
			if e, at := r.Done(); e != step.e || at != step.at || r.Left() != 4-step.at {
				t.Errorf("step %d: %d, %d, left %d", k, e, at, r.Left())
			}
		}
	}
	if e, at := code.NewReader("").Done(); e != api.OK || at != 0 {
		t.Errorf("a Reader of nothing: %d, %d", e, at)
	}
}

func TestReadersStandApart(t *testing.T) {
	s := "ab"
	a, b := code.NewReader(s), code.NewReader(s)
	a.Raw(-1)
	if b.Raw(2) != "ab" || a.Left() != 2 || b.Left() != 0 {
		t.Error("one Reader is disturbed by another")
	}
}
