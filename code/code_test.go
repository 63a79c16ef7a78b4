package code_test

import (
	"math"
	"math/rand"
	"strings"
	"testing"

	"confluence/api"
	"confluence/code"
)

// item is one thing that is written and read again: the kind of the call, its number, its text.
type item struct {
	kind, n int
	text    string
}

const (
	itemByte = iota
	itemVar
	itemInt
	itemText
	itemRaw
	itemKinds
)

func randomItem(source *rand.Rand) item {
	it := item{kind: source.Intn(itemKinds)}
	n := int(source.Uint64()) >> source.Intn(64)
	switch it.kind {
	case itemByte:
		it.n = n & 255
	case itemVar:
		it.n = n & math.MaxInt
	case itemInt:
		it.n = n
	default:
		it.text = randomText(source, 200)
	}
	return it
}

func (it item) write(w *code.Writer) {
	switch it.kind {
	case itemByte:
		w.Byte(it.n)
	case itemVar:
		w.Var(it.n)
	case itemInt:
		w.Int(it.n)
	case itemText:
		w.Text(it.text, len(it.text))
	case itemRaw:
		w.Raw(it.text)
	}
}

// read takes an item by the call that wrote it; most is handed to Text, size to Raw.
func (it item) read(r *code.Reader, most, size int) item {
	got := item{kind: it.kind}
	switch it.kind {
	case itemByte:
		got.n = r.Byte()
	case itemVar:
		got.n = r.Var()
	case itemInt:
		got.n = r.Int()
	case itemText:
		got.text = r.Text(most)
	case itemRaw:
		got.text = r.Raw(size)
	}
	return got
}

func TestC10WrittenIsRead(t *testing.T) {
	source := rand.New(rand.NewSource(10))
	for range 2000 {
		var items []item
		for range source.Intn(20) {
			items = append(items, randomItem(source))
		}
		s, e := written(func(w *code.Writer) {
			for _, it := range items {
				it.write(w)
			}
		})
		if e != api.OK {
			t.Fatalf("%v: %d", items, e)
		}
		r := code.NewReader(s)
		for _, it := range items {
			if got := it.read(r, len(it.text), len(it.text)); got != it {
				t.Fatalf("%v came back as %v", it, got)
			}
		}
		if e, n := r.Done(); e != api.OK || n != len(s) {
			t.Fatalf("Done: %d, %d of %d", e, n, len(s))
		}
	}
}

func TestC10EdgesAreRead(t *testing.T) {
	for _, n := range edges() {
		s, _ := written(func(w *code.Writer) { w.Int(n) })
		reading{"Int", s, readInt, n, "", api.OK, len(s)}.hold(t)
		if n >= 0 {
			s, _ = written(func(w *code.Writer) { w.Var(n) })
			reading{"Var", s, readVar, n, "", api.OK, len(s)}.hold(t)
		}
	}
}

// TestC10OneWay reads any bytes by a row of calls: what is taken, written again, is the same bytes.
func TestC10OneWay(t *testing.T) {
	source := rand.New(rand.NewSource(11))
	for range 20000 {
		s := randomText(source, 30)
		r := code.NewReader(s)
		w := code.NewWriter()
		for range 6 {
			got := item{kind: source.Intn(itemKinds)}.read(r, 20, source.Intn(4))
			if e, _ := r.Done(); e != api.OK && e != api.ErrCodeMore {
				break
			}
			got.write(w)
		}
		_, n := r.Done()
		if again, e := w.Done(); again != s[:n] || e != api.OK {
			t.Fatalf("of %x were taken %d bytes; written again they are %x, %d", s, n, again, e)
		}
	}
}

func TestC10FrameAndWhatFollows(t *testing.T) {
	source := rand.New(rand.NewSource(12))
	for range 500 {
		p := randomText(source, api.MaxPayload)
		wantUnframed(t, "a frame and more", frameOf(t, p)+randomText(source, 20), p, len(p)+7, api.OK)
	}
}

func TestC10BeginningsAreShort(t *testing.T) {
	for _, p := range []string{"", "a", "ab", "\x00\x00\x00", strings.Repeat("\xc7", 300)} {
		f := frameOf(t, p)
		for n := 1; n < len(f); n++ {
			wantUnframed(t, "a beginning", f[:n], "", 0, api.ErrCodeShort)
		}
	}
}

// turned has bits of s turned: those of a pattern, from a bit on, counted from the lowest of each byte.
func turned(s string, from int, pattern uint32) string {
	out := []byte(s)
	for k := range 32 {
		if pattern>>k&1 == 1 {
			out[(from+k)/8] ^= 1 << ((from + k) % 8)
		}
	}
	return string(out)
}

func TestC10TurnedBits(t *testing.T) {
	source := rand.New(rand.NewSource(13))
	const head, check = 8 * 7, 8 * 3
	for _, p := range []string{"a", "abcd", "confluence", strings.Repeat("\x00", 60), randomText(source, 200)} {
		f := frameOf(t, p)
		for k := range 32 {
			wantUnframed(t, "a bit of the check", turned(f, check, 1<<k), "", 0, api.ErrCodeSpoilt)
		}
		for range 200 {
			wantUnframed(t, "bits of the check", turned(f, check, source.Uint32()|1), "", 0, api.ErrCodeSpoilt)
		}
		for from := range 8 * len(p) {
			room := min(32, 8*len(p)-from)
			for range 20 {
				pattern := (source.Uint32() | 1) << (32 - room) >> (32 - room)
				wantUnframed(t, "bits of the payload", turned(f, head+from, pattern|1), "", 0, api.ErrCodeSpoilt)
			}
		}
	}
}

func TestExamples(t *testing.T) {
	s, e := written(func(w *code.Writer) { w.Byte(1, 255); w.Var(300); w.Int(-2); w.Text("hi", 4) })
	if s != "\x01\xff\xac\x02\x03\x02hi" || e != api.OK {
		t.Fatalf("example 1: %x, %d", s, e)
	}
	r := code.NewReader(s)
	if r.Byte() != 1 || r.Byte() != 255 || r.Var() != 300 || r.Int() != -2 || r.Text(4) != "hi" {
		t.Error("example 1: it is read otherwise")
	}
	if e, n := r.Done(); e != api.OK || n != 8 {
		t.Errorf("example 1: Done: %d, %d", e, n)
	}
	wantWrong(t, "example 2", api.ErrCodeRange, func(w *code.Writer) { w.Byte(256) })
	wantWrong(t, "example 2", api.ErrCodeLong, func(w *code.Writer) { w.Text("hello", 4) })
	wantWrong(t, "example 2", api.ErrCodeRange, func(w *code.Writer) { w.Var(-1) })
	nine := strings.Repeat("\xff", 9)
	for _, c := range []reading{
		{"example 3", "\x80\x00", readVar, 0, "", api.ErrCodeForm, 0},
		{"example 3", nine, readVar, 0, "", api.ErrCodeRange, 0},
		{"example 3", nine + "\x01", readInt, math.MinInt, "", api.OK, 10},
		{"example 3", nine + "\x02", readInt, 0, "", api.ErrCodeRange, 0},
	} {
		c.hold(t)
	}
	if code.Check("123456789") != 3808858755 {
		t.Error("example 4")
	}
	f := frameOf(t, "ab")
	if len(f) != 9 || f[:3] != "\xc7\x00\x02" || f[7:] != "ab" {
		t.Errorf("example 5: %x", f)
	}
	wantUnframed(t, "example 5", f+"xyz", "ab", 9, api.OK)
	wantUnframed(t, "example 5", f[:6], "", 0, api.ErrCodeShort)
	wantUnframed(t, "example 5", "", "", 0, api.ErrCodeBlank)
}
