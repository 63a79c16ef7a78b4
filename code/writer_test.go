package code_test

import (
	"math"
	"math/big"
	"slices"
	"strings"
	"testing"

	"confluence/api"
	"confluence/code"
)

// written is what a new Writer answers behind some calls.
func written(calls func(w *code.Writer)) (string, api.Errno) {
	w := code.NewWriter()
	calls(w)
	return w.Done()
}

// wantWritten asks for bytes; wantWrong for an error and no bytes.
func wantWritten(t *testing.T, what, want string, calls func(w *code.Writer)) {
	t.Helper()
	if s, e := written(calls); s != want || e != api.OK {
		t.Errorf("%s: %x, %d, want %x, OK", what, s, e, want)
	}
}

func wantWrong(t *testing.T, what string, want api.Errno, calls func(w *code.Writer)) {
	t.Helper()
	if s, e := written(calls); s != "" || e != want {
		t.Errorf("%s: %x, %d, want nothing, %d", what, s, e, want)
	}
}

// digitsByRule lays the digits of a number down as the chapter's words say it, by numbers without a bound.
func digitsByRule(n *big.Int) string {
	base, digit := big.NewInt(128), new(big.Int)
	n = new(big.Int).Set(n)
	var out []byte
	for {
		n.DivMod(n, base, digit)
		if n.Sign() == 0 {
			return string(append(out, byte(digit.Int64())))
		}
		out = append(out, byte(digit.Int64())+128)
	}
}

// foldByRule folds a sign as the chapter's words say it.
func foldByRule(n int) *big.Int {
	twice := new(big.Int).Mul(big.NewInt(2), big.NewInt(int64(n)))
	if n >= 0 {
		return twice
	}
	return twice.Neg(twice).Sub(twice, big.NewInt(1))
}

// edges are the ints around each power of two, of both signs, and the greatest and least ones.
func edges() []int {
	out := []int{0, math.MinInt, math.MinInt + 1, math.MaxInt, math.MaxInt - 1}
	for k := range 63 {
		p := 1 << k
		out = append(out, p-1, p, p+1, -p-1, -p, -p+1)
	}
	return out
}

func TestC1Byte(t *testing.T) {
	for n := range 256 {
		wantWritten(t, "Byte", string([]byte{byte(n)}), func(w *code.Writer) { w.Byte(n) })
	}
	wantWritten(t, "Byte of none", "", func(w *code.Writer) { w.Byte() })
	wantWritten(t, "Byte of some", "\x01\xff\x00", func(w *code.Writer) { w.Byte(1, 255, 0) })
	for _, n := range []int{-1, 256, 257, -256, math.MaxInt, math.MinInt, 1 << 32} {
		wantWrong(t, "Byte", api.ErrCodeRange, func(w *code.Writer) { w.Byte(n) })
		wantWrong(t, "Byte, last", api.ErrCodeRange, func(w *code.Writer) { w.Byte(1, 2, n) })
		wantWrong(t, "Byte, first", api.ErrCodeRange, func(w *code.Writer) { w.Byte(n, 1, 2) })
	}
}

func TestC1ByteLeavesTheList(t *testing.T) {
	room := []int{1, 2, 3, 400, 5}
	written(func(w *code.Writer) { w.Byte(room[:3]...); w.Byte(room...) })
	if !slices.Equal(room, []int{1, 2, 3, 400, 5}) {
		t.Errorf("the list is %v now", room)
	}
}

func TestC1Var(t *testing.T) {
	for n, want := range map[int]string{0: "\x00", 1: "\x01", 127: "\x7f", 128: "\x80\x01", 300: "\xac\x02", 16383: "\xff\x7f", 16384: "\x80\x80\x01"} {
		wantWritten(t, "Var", want, func(w *code.Writer) { w.Var(n) })
	}
	for _, n := range edges() {
		if n < 0 {
			wantWrong(t, "Var", api.ErrCodeRange, func(w *code.Writer) { w.Var(n) })
		} else {
			wantWritten(t, "Var", digitsByRule(big.NewInt(int64(n))), func(w *code.Writer) { w.Var(n) })
		}
	}
}

func TestC1Int(t *testing.T) {
	for n, want := range map[int]string{0: "\x00", -1: "\x01", 1: "\x02", -2: "\x03", 63: "\x7e", -64: "\x7f", 64: "\x80\x01", math.MinInt: "\xff\xff\xff\xff\xff\xff\xff\xff\xff\x01"} {
		wantWritten(t, "Int", want, func(w *code.Writer) { w.Int(n) })
	}
	for _, n := range edges() {
		wantWritten(t, "Int", digitsByRule(foldByRule(n)), func(w *code.Writer) { w.Int(n) })
	}
}

func TestC2Text(t *testing.T) {
	wantWritten(t, "empty", "\x00", func(w *code.Writer) { w.Text("", 0) })
	wantWritten(t, "room to spare", "\x02hi", func(w *code.Writer) { w.Text("hi", 4) })
	wantWritten(t, "just room", "\x02hi", func(w *code.Writer) { w.Text("hi", 2) })
	wantWritten(t, "any bytes", "\x03\x00\xff\x80", func(w *code.Writer) { w.Text("\x00\xff\x80", math.MaxInt) })
	long := strings.Repeat("x", 300)
	wantWritten(t, "a length of two bytes", "\xac\x02"+long, func(w *code.Writer) { w.Text(long, 300) })
	wantWrong(t, "one too many", api.ErrCodeLong, func(w *code.Writer) { w.Text("hi", 1) })
	wantWrong(t, "no room at all", api.ErrCodeLong, func(w *code.Writer) { w.Text("h", 0) })
	wantWrong(t, "a long one", api.ErrCodeLong, func(w *code.Writer) { w.Text(long, 299) })
	for _, most := range []int{-1, math.MinInt} {
		wantWrong(t, "no bound", api.ErrArg, func(w *code.Writer) { w.Text("", most) })
		wantWrong(t, "no bound, and too long", api.ErrArg, func(w *code.Writer) { w.Text("hi", most) })
	}
}

func TestC2Raw(t *testing.T) {
	wantWritten(t, "empty", "", func(w *code.Writer) { w.Raw("") })
	wantWritten(t, "any bytes", "a\x00\xffb", func(w *code.Writer) { w.Raw("a\x00"); w.Raw("\xffb") })
}

func TestC3Done(t *testing.T) {
	w := code.NewWriter()
	if s, e := w.Done(); s != "" || e != api.OK {
		t.Fatalf("a new Writer: %q, %d", s, e)
	}
	w.Raw("ab")
	first, _ := w.Done()
	again, e := w.Done()
	if first != "ab" || again != "ab" || e != api.OK {
		t.Errorf("Done twice: %q, %q, %d", first, again, e)
	}
	w.Byte('c')
	if s, e := w.Done(); s != "abc" || e != api.OK || first != "ab" {
		t.Errorf("going on: %q, %d; and what came out earlier: %q", s, e, first)
	}
	w.Byte(256)
	for range 2 {
		if s, e := w.Done(); s != "" || e != api.ErrCodeRange {
			t.Errorf("behind a fault: %q, %d", s, e)
		}
	}
	w.Raw("d")
	if s, e := w.Done(); s != "" || e != api.ErrCodeRange {
		t.Errorf("going on behind a fault: %q, %d", s, e)
	}
}

func TestC3FirstFaultIsKept(t *testing.T) {
	faults := []struct {
		e    api.Errno
		call func(w *code.Writer)
	}{
		{api.ErrCodeRange, func(w *code.Writer) { w.Byte(256) }},
		{api.ErrCodeRange, func(w *code.Writer) { w.Var(-1) }},
		{api.ErrCodeLong, func(w *code.Writer) { w.Text("hello", 4) }},
		{api.ErrArg, func(w *code.Writer) { w.Text("", -1) }},
	}
	for _, first := range faults {
		for _, second := range faults {
			wantWrong(t, "two faults", first.e, func(w *code.Writer) {
				w.Raw("x")
				first.call(w)
				w.Int(1)
				second.call(w)
				w.Text("y", 1)
			})
		}
	}
}

func TestWritersStandApart(t *testing.T) {
	a, b := code.NewWriter(), code.NewWriter()
	a.Raw("a")
	b.Var(-1)
	a.Raw("c")
	if s, e := a.Done(); s != "ac" || e != api.OK {
		t.Errorf("one Writer is disturbed by another: %q, %d", s, e)
	}
}
