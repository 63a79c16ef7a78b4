package code_test

import (
	"hash/crc32"
	"math/rand"
	"strings"
	"testing"

	"confluence/api"
	"confluence/code"
)

// checkByRule goes bit by bit, as C7 says it.
func checkByRule(s string) int {
	c := uint32(4294967295)
	for i := range len(s) {
		c ^= uint32(s[i])
		for range 8 {
			low := c & 1
			c >>= 1
			if low == 1 {
				c ^= 2197175160
			}
		}
	}
	return int(^c)
}

func randomText(source *rand.Rand, most int) string {
	s := make([]byte, source.Intn(most+1))
	source.Read(s)
	return string(s)
}

func frameOf(t *testing.T, s string) string {
	t.Helper()
	f, e := code.Frame(s)
	if e != api.OK {
		t.Fatalf("Frame of %d bytes: %d", len(s), e)
	}
	return f
}

func wantUnframed(t *testing.T, what, s, payload string, n int, want api.Errno) {
	t.Helper()
	if p, size, e := code.Unframe(s); p != payload || size != n || e != want {
		t.Errorf("%s: %q, %d, %d, want %q, %d, %d", what, p, size, e, payload, n, want)
	}
}

func TestC7Check(t *testing.T) {
	if code.Check("123456789") != 3808858755 || code.Check("") != 0 {
		t.Errorf("%d, %d", code.Check("123456789"), code.Check(""))
	}
	texts := []string{"", strings.Repeat("\x00", 32), strings.Repeat("\xff", 32)}
	for b := range 256 {
		texts = append(texts, string([]byte{byte(b)}), string([]byte{'a', byte(b), 0}))
	}
	source := rand.New(rand.NewSource(7))
	for range 500 {
		texts = append(texts, randomText(source, 300))
	}
	castagnoli := crc32.MakeTable(crc32.Castagnoli)
	for _, s := range texts {
		got := code.Check(s)
		if got != checkByRule(s) || got != int(crc32.Checksum([]byte(s), castagnoli)) {
			t.Errorf("Check(%x) = %d, want %d", s, got, checkByRule(s))
		}
	}
}

func TestC8Frame(t *testing.T) {
	source := rand.New(rand.NewSource(8))
	for _, s := range []string{"", "ab", "\x00", strings.Repeat("x", 255), strings.Repeat("x", 256), randomText(source, 4000), strings.Repeat("y", 4000)} {
		length := string([]byte{byte(len(s) / 256), byte(len(s) % 256)})
		c := checkByRule(length + s)
		want := "\xc7" + length + string([]byte{byte(c), byte(c >> 8), byte(c >> 16), byte(c >> 24)}) + s
		if f, e := code.Frame(s); f != want || e != api.OK {
			t.Errorf("Frame of %d bytes: %x, %d, want %x", len(s), f, e, want)
		}
	}
	for _, n := range []int{4001, 65536, 65538, 1 << 20} {
		if f, e := code.Frame(strings.Repeat("x", n)); f != "" || e != api.ErrCodeLong {
			t.Errorf("Frame of %d bytes: %d bytes, %d", n, len(f), e)
		}
	}
}

func TestC9Unframe(t *testing.T) {
	f := frameOf(t, "ab")
	long := frameOf(t, strings.Repeat("x", 4000))
	wantUnframed(t, "a frame", f, "ab", 9, api.OK)
	wantUnframed(t, "an empty payload", frameOf(t, ""), "", 7, api.OK)
	wantUnframed(t, "the longest", long, strings.Repeat("x", 4000), 4007, api.OK)
	wantUnframed(t, "bytes behind it", f+"xyz", "ab", 9, api.OK)
	wantUnframed(t, "a frame behind it", f+long, "ab", 9, api.OK)
	wantUnframed(t, "nothing", "", "", 0, api.ErrCodeBlank)
	wantUnframed(t, "a nought", "\x00", "", 0, api.ErrCodeBlank)
	wantUnframed(t, "a nought ahead", "\x00"+f, "", 0, api.ErrCodeBlank)
	wantUnframed(t, "a short head", "\xc7\xff\xff", "", 0, api.ErrCodeShort)
	wantUnframed(t, "too great a length", "\xc7\x0f\xa1"+long[3:]+"x", "", 0, api.ErrCodeSpoilt)
	wantUnframed(t, "too great a length, and short", "\xc7\x0f\xa1"+f[3:], "", 0, api.ErrCodeSpoilt)
	wantUnframed(t, "the greatest length, and short", "\xc7\x0f\xa0"+f[3:], "", 0, api.ErrCodeShort)
	wantUnframed(t, "a greater length, and short", "\xc7\x00\x03"+f[3:], "", 0, api.ErrCodeShort)
	wantUnframed(t, "a greater length", "\xc7\x00\x03"+f[3:]+"c", "", 0, api.ErrCodeSpoilt)
	wantUnframed(t, "a smaller length", "\xc7\x00\x01"+f[3:], "", 0, api.ErrCodeSpoilt)
	wantUnframed(t, "another payload", f[:8]+"c", "", 0, api.ErrCodeSpoilt)
	for b := 1; b < 256; b++ {
		if b != 199 {
			wantUnframed(t, "another first byte", string([]byte{byte(b)})+f[1:], "", 0, api.ErrCodeSpoilt)
			wantUnframed(t, "another first byte alone", string([]byte{byte(b)}), "", 0, api.ErrCodeSpoilt)
		}
	}
}

// TestC9TooLongButRight has a frame that is right but for its length, which no Frame makes.
func TestC9TooLongButRight(t *testing.T) {
	s := strings.Repeat("x", 4001)
	c := checkByRule("\x0f\xa1" + s)
	f := "\xc7\x0f\xa1" + string([]byte{byte(c), byte(c >> 8), byte(c >> 16), byte(c >> 24)}) + s
	wantUnframed(t, "4001 bytes", f, "", 0, api.ErrCodeSpoilt)
}

func TestC9AnyBytes(t *testing.T) {
	source := rand.New(rand.NewSource(9))
	for range 20000 {
		s := randomText(source, 40)
		if source.Intn(2) == 0 {
			s = "\xc7\x00" + string([]byte{byte(source.Intn(40))}) + s
		}
		p, n, e := code.Unframe(s)
		if e != api.OK && (p != "" || n != 0) {
			t.Errorf("beside an error of %x: %q, %d", s, p, n)
		}
		if e == api.OK && (n > len(s) || frameOf(t, p) != s[:n]) {
			t.Errorf("%x is taken for the frame of %q, %d", s, p, n)
		}
	}
}
