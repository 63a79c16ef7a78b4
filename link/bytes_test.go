package link_test

import (
	"math"
	"math/rand"
	"slices"
	"strings"
	"testing"

	"confluence/api"
)

// read takes a number off the front of bytes, by the words of layer 1; false: none stands there, or not by as few digits as may be.
func read(s *string) (int, bool) {
	n, place := 0, 1
	for i := 0; i < len(*s) && i < 9; i++ {
		b := int((*s)[i])
		n += b % 128 * place
		place *= 128
		if b >= 128 {
			continue
		}
		*s = (*s)[i+1:]
		return n, b > 0 || i == 0
	}
	return 0, false
}

// readAll takes so many.
func readAll(s *string, count int) ([]int, bool) {
	out := make([]int, count)
	for i := range out {
		n, ok := read(s)
		if !ok {
			return nil, false
		}
		out[i] = n
	}
	return out, true
}

// opened has the bytes between the letters and the check, if both are right.
func opened(s, letters string) (string, bool) {
	if len(s) < len(letters)+4 || sealed(s[:len(s)-4]) != s || !strings.HasPrefix(s, letters) {
		return "", false
	}
	return s[len(letters) : len(s)-4], true
}

// part is what a right frame says.
type part struct {
	behind, end, number, pieces int
	messages                    []string
}

// ruledFrame holds bytes against the chapter's words of a right frame.
func ruledFrame(s string) (part, bool) {
	s, ok := opened(s, "LD")
	if !ok {
		return part{}, false
	}
	n, ok := readAll(&s, 5)
	if !ok {
		return part{}, false
	}
	p := part{behind: n[0], end: n[1], number: n[2], pieces: n[3]}
	if n[0] > top || n[1] > top || n[1] <= n[0] || n[3] < 1 || n[3] > 65535 || n[2] >= n[3] || n[4] > 65535 || n[4] == 0 && n[3] != 1 {
		return part{}, false
	}
	for range n[4] {
		size, ok := read(&s)
		if !ok || size > 4000 || size > len(s) {
			return part{}, false
		}
		p.messages = append(p.messages, s[:size])
		s = s[size:]
	}
	return p, s == ""
}

// ruledWord holds bytes against the chapter's words of a word.
func ruledWord(s string) (int, bool) {
	s, ok := opened(s, "LW")
	if !ok {
		return 0, false
	}
	n, ok := read(&s)
	return n, ok && s == "" && n <= top
}

// refuses hands bytes that are neither to both ends; neither changes.
func refuses(t *testing.T, s string) {
	t.Helper()
	if _, ok := ruledFrame(s); ok {
		t.Fatalf("%q is a frame", s)
	}
	if _, ok := ruledWord(s); ok {
		t.Fatalf("%q is a word", s)
	}
	a, b := sender(t, 3), receiver(t, 5)
	put(t, a, 9, "m")
	waits(t, b, frameOf(4, 9, 1, 2, "w"))
	confirmsNot(t, a, s)
	takesNot(t, b, s, api.ErrLinkFrame)
	keeps(t, a, 3, transaction{3, 9, []string{"m"}})
	has(t, b, 5, 5)
	takes(t, b, frameOf(4, 9, 0, 2, "v"), 9, "v", "w")
}

// someFrames are right ones, as bytes.
func someFrames() []string {
	return []string{
		frameOf(5, 6, 0, 1), frameOf(0, 300, 0, 1, ""), frameOf(0, 10, 0, 1, "ab"), frameOf(5, top, 200, 300, "a", "", "bcd"), frameOf(3, 70000, 65534, 65535, "x"), frameOf(4, 9, 0, 2, chars("y", 130), "z"),
	}
}

// TestBytesCut: frames and words, cut at each place, with bytes ahead or behind, also with a check that is right.
func TestBytesCut(t *testing.T) {
	for _, s := range append(someFrames(), wordOf(0), wordOf(5), wordOf(300), wordOf(top)) {
		for i := range s {
			refuses(t, s[:i])
			refuses(t, s[i+1:])
			refuses(t, s[:i]+s[i+1:])
		}
		body := s[:len(s)-4]
		for i := range body {
			refuses(t, sealed(body[:i]))
		}
		for _, more := range []string{"\x00", "\x01", "x", "LD", "LW", s, chars("\x00", 100)} {
			refuses(t, s+more)
			refuses(t, more+s)
			refuses(t, sealed(body+more))
			refuses(t, sealed(more+body))
		}
	}
}

// TestBytesSpoilt: each byte is another one.
func TestBytesSpoilt(t *testing.T) {
	for _, s := range []string{someFrames()[0], someFrames()[2], someFrames()[3], wordOf(0), wordOf(300), wordOf(top)} {
		for i := range s {
			for turn := 1; turn < 256; turn++ {
				b := []byte(s)
				b[i] ^= byte(turn)
				refuses(t, string(b))
			}
		}
	}
}

// TestBytesChecks: other checks: turned round, of other bytes, none.
func TestBytesChecks(t *testing.T) {
	for _, s := range append(someFrames(), wordOf(5)) {
		body, check := s[:len(s)-4], []byte(s[len(s)-4:])
		slices.Reverse(check)
		refuses(t, body+string(check))
		refuses(t, body+"\x00\x00\x00\x00")
		refuses(t, body+"\xff\xff\xff\xff")
		refuses(t, body)
		refuses(t, body+sealed(body[2:])[len(body)-2:])
		refuses(t, sealed(s))
	}
}

// TestBytesKinds: a frame is no word, and a word no frame; nor are other letters either.
func TestBytesKinds(t *testing.T) {
	for _, f := range someFrames() {
		confirmsNot(t, sender(t, 0), f)
		body := f[2 : len(f)-4]
		for _, letters := range []string{"", "L", "D", "W", "DL", "ld", "Ld", "lD", "LE", "KD", "LDLD", "\x00\x00", "L\x00"} {
			refuses(t, sealed(letters+body))
		}
		refuses(t, sealed("LW"+body))
	}
	for _, n := range []int{0, 5, 300, top} {
		takesNot(t, receiver(t, 0), wordOf(n), api.ErrLinkFrame)
		for _, letters := range []string{"", "L", "W", "WL", "lw", "Lw", "LX", "LWLW", "LD"} {
			refuses(t, sealed(letters+digits(n)))
		}
	}
	for _, s := range []string{"", "L", "LD", "LW", "\x00\x00\x00\x00", sealed(""), sealed("L"), sealed("LD"), sealed("LW")} {
		refuses(t, s)
	}
}

// TestBytesNumbers: each number of a frame at its bounds and beyond, and the greatest that bytes can tell.
func TestBytesNumbers(t *testing.T) {
	for _, c := range []struct {
		behind, end, number, pieces int
		right                       bool
	}{
		{0, 1, 0, 1, true}, {0, 0, 0, 1, false}, {1, 0, 0, 1, false}, {5, 5, 0, 1, false}, {6, 5, 0, 1, false}, {0, top, 0, 1, true}, {0, top + 1, 0, 1, false}, {top - 1, top, 0, 1, true},
		{top, top, 0, 1, false}, {top, top + 1, 0, 1, false}, {top + 1, top + 2, 0, 1, false}, {0, 1 << 32, 0, 1, false}, {0, 1<<32 + 1, 0, 1, false}, {0, math.MaxInt, 0, 1, false}, {math.MaxInt, 1, 0, 1, false}, {math.MaxInt - 1, math.MaxInt, 0, 1, false}, {1 << 32, 5, 0, 1, false},
		{0, 1, 0, 0, false}, {0, 1, 1, 0, false}, {0, 1, 1, 1, false}, {0, 1, 2, 1, false}, {0, 1, 1, 2, true}, {0, 1, 2, 2, false}, {0, 1, 65534, 65535, true}, {0, 1, 65535, 65535, false}, {0, 1, 0, 65535, true}, {0, 1, 0, 65536, false}, {0, 1, 65535, 65536, false},
		{0, 1, 0, 65537, false}, {0, 1, 1 << 16, 1, false}, {0, 1, 1 << 32, 1, false}, {0, 1, 0, 1<<32 + 1, false}, {0, 1, 0, math.MaxInt, false}, {0, 1, math.MaxInt, math.MaxInt, false}, {0, 1, math.MaxInt, 1, false},
	} {
		f := frameOf(c.behind, c.end, c.number, c.pieces, "m")
		if !c.right {
			refuses(t, f)
			continue
		}
		r := receiver(t, c.behind)
		if c.pieces > 1 {
			waits(t, r, f)
			takesNot(t, r, f, api.ErrLinkOld)
		} else {
			takes(t, r, f, c.end, "m")
		}
	}
	for _, n := range []int{top + 1, top + 8192, 1 << 31, 1 << 32, 1<<32 + 5, math.MaxInt - 1, math.MaxInt} {
		refuses(t, wordOf(n))
	}
}

// TestBytesMessages: how many messages a piece says it has, how many it has, how long each says it is.
func TestBytesMessages(t *testing.T) {
	head := func(pieces int) string { return "LD" + digits(0) + digits(1) + digits(0) + digits(pieces) }
	for _, n := range []int{0, 1, 2, 100, 65534, 65535, 65536, 65537, 1 << 20} {
		l := make([]string, n)
		f := frameOf(0, 1, 0, 1, l...)
		more := frameOf(0, 1, 0, 2, l...)
		if n > 65535 {
			refuses(t, f)
			refuses(t, more)
			continue
		}
		takes(t, receiver(t, 0), f, 1, l...)
		if n == 0 {
			refuses(t, more)
		} else {
			waits(t, receiver(t, 0), more)
		}
	}
	for _, pieces := range []int{1, 2} {
		for _, says := range []int{0, 1, 3, 4, 1000, 65535, 65536, 1 << 31, 1 << 32, 1<<32 + 2, 1<<62 - 1, math.MaxInt} {
			refuses(t, sealed(head(pieces)+digits(says)+textsOf([]string{"a", "b"})))
		}
	}
	for _, says := range []int{0, 1, 3, 4000, 4001, 1 << 31, 1<<32 + 2, math.MaxInt} {
		refuses(t, sealed(head(1)+digits(1)+digits(says)+"ab"))
	}
	for _, size := range []int{0, 1, 127, 128, 3999, 4000, 4001, 4002, 65536} {
		f := frameOf(0, 1, 0, 1, chars("a", size))
		if size > 4000 {
			refuses(t, f)
			refuses(t, frameOf(0, 1, 0, 1, "", chars("a", size), ""))
			continue
		}
		takes(t, receiver(t, 0), f, 1, chars("a", size))
	}
	// A right frame may have more bytes than a sender lays into one piece.
	l := slices.Repeat([]string{chars("a", 4000)}, 70)
	takes(t, receiver(t, 0), frameOf(0, 1, 0, 1, l...), 1, l...)
}

// TestBytesForms: each number of a frame and of a word in a longer form than it needs, or with too many digits.
func TestBytesForms(t *testing.T) {
	numbers := []int{3, 300, 0, 1, 2, 1, 0} // the last two are lengths
	texts := []string{"a", ""}
	for wrong := -1; wrong < len(numbers); wrong++ {
		for _, form := range []func(int) string{longer, func(n int) string { return digits(n + 128)[:1] + "\x80\x00" }, func(int) string { return chars("\xff", 9) }, func(int) string { return chars("\x80", 9) + "\x00" }, func(int) string { return chars("\xff", 9) + "\x01" }, func(int) string { return chars("\x80", 8) + "\x00" }} {
			s := "LD"
			for i, n := range numbers {
				d := digits(n)
				if i == wrong {
					d = form(n)
				}
				s += d
				if i >= 5 {
					s += texts[i-5]
				}
			}
			if wrong < 0 {
				takes(t, receiver(t, 3), sealed(s), 300, texts...)
			} else {
				refuses(t, sealed(s))
			}
		}
	}
	for _, n := range []int{0, 1, 127, 128, 300, top} {
		refuses(t, sealed("LW"+longer(n)))
		refuses(t, sealed("LW"+digits(n)+digits(n)))
	}
	for _, s := range []string{"", "\x80", "\xff\xff", chars("\xff", 8), chars("\xff", 9), chars("\xff", 9) + "\x01", chars("\x80", 20)} {
		refuses(t, sealed("LW"+s))
	}
}

// anyBytes are random ones, more often than not nearly right.
func anyBytes(source *rand.Rand) string {
	b := make([]byte, source.Intn(30))
	source.Read(b)
	for i := range b {
		if source.Intn(2) == 0 {
			b[i] %= 8
		}
	}
	switch source.Intn(4) {
	case 0:
		return string(b)
	case 1:
		return sealed(string(b))
	case 2:
		return sealed("LW" + string(b[:min(len(b), source.Intn(6))]))
	}
	return sealed("LD" + string(b))
}

// mutated has something of a right frame changed, and the check made anew.
func mutated(source *rand.Rand) string {
	l := append(someFrames(), wordOf(source.Intn(1000)))
	f := l[source.Intn(len(l))]
	b := []byte(f[:len(f)-4])
	for range 1 + source.Intn(3) {
		at := source.Intn(len(b))
		switch source.Intn(3) {
		case 0:
			b[at] = byte(source.Intn(256))
		case 1:
			b[at] ^= 1 << source.Intn(8)
		default:
			b = slices.Insert(b, at, byte(source.Intn(4)))
		}
	}
	return sealed(string(b))
}

// TestBytesAny: whatever bytes come, they are taken just if the chapter's words say so.
func TestBytesAny(t *testing.T) {
	source := rand.New(rand.NewSource(21))
	frames, words := 0, 0
	for range 40000 {
		s := anyBytes(source)
		if source.Intn(2) == 0 {
			s = mutated(source)
		}
		a, b := sender(t, 2), receiver(t, 2)
		n, word := ruledWord(s)
		if got, e := a.Word(s); (e == api.OK) != word || word && got != max(n, 2) || !word && (got != 0 || e != api.ErrLinkFrame) {
			t.Fatalf("Word(%q): %d, %d, want %t, %d", s, got, e, word, n)
		}
		p, frame := ruledFrame(s)
		want, messages, end := api.OK, []string(nil), 0
		switch {
		case !frame:
			want = api.ErrLinkFrame
		case p.end <= 2:
			want = api.ErrLinkOld
		case p.behind > 2:
			want = api.ErrLinkGap
		case p.pieces == 1:
			messages, end = p.messages, p.end
		}
		if l, got, e := b.Take(s); e != want || got != end || !slices.Equal(l, messages) {
			t.Fatalf("Take(%q): %q, %d, %d, want %q, %d, %d", s, l, got, e, messages, end, want)
		}
		if word {
			words++
		}
		if frame {
			frames++
		}
	}
	if words < 1000 || frames < 1000 {
		t.Errorf("only %d words, %d frames", words, frames)
	}
}

// FuzzBytes: the same, of bytes that are looked for.
func FuzzBytes(f *testing.F) {
	for _, s := range append(someFrames(), wordOf(5), "", "LD") {
		f.Add(s)
	}
	f.Fuzz(func(t *testing.T, s string) {
		for _, x := range []string{s, sealed(s), sealed("LD" + s), sealed("LW" + s)} {
			_, word := ruledWord(x)
			if _, e := sender(t, 0).Word(x); (e == api.OK) != word {
				t.Errorf("Word(%q): %d, want %t", x, e, word)
			}
			_, frame := ruledFrame(x)
			if _, _, e := receiver(t, 0).Take(x); (e != api.ErrLinkFrame) != frame {
				t.Errorf("Take(%q): %d, want %t", x, e, frame)
			}
		}
	})
}
