package link_test

import (
	"hash/crc32"
	"math"
	"slices"
	"strings"
	"testing"

	"confluence/api"
	"confluence/link"
)

// top is the greatest position.
const top = 819208192

// noPositions are none.
var noPositions = []int{math.MinInt, math.MinInt + 1, -top, -8192, -1, top + 1, top + 8192, 1<<31 - 1, 1 << 31, 1<<32 + 100, math.MaxInt - 1, math.MaxInt}

// transaction is one as it was handed in, with the place behind which it comes.
type transaction struct {
	behind, end int
	messages    []string
}

func is(t *testing.T, what string, got, want api.Errno) {
	t.Helper()
	if got != want {
		t.Errorf("%s: %d, want %d", what, got, want)
	}
}

// char is a byte as a text.
func char(b int) string { return string([]byte{byte(b)}) }

// digits are those of a number, as layer 1 says it: lowest first, 128 added to all but the last.
func digits(n int) string {
	out := ""
	for ; n >= 128; n /= 128 {
		out += char(n%128 + 128)
	}
	return out + char(n)
}

// longer is a number with a digit more than it needs.
func longer(n int) string {
	s := digits(n)
	return s[:len(s)-1] + char(int(s[len(s)-1])+128) + "\x00"
}

// textsOf are texts, each with its length ahead.
func textsOf(l []string) string {
	var b strings.Builder
	for _, s := range l {
		b.WriteString(digits(len(s)))
		b.WriteString(s)
	}
	return b.String()
}

// sealed has the check behind bytes, the lowest byte first.
func sealed(s string) string {
	c := int(crc32.Checksum([]byte(s), crc32.MakeTable(crc32.Castagnoli)))
	return s + char(c) + char(c>>8) + char(c>>16) + char(c>>24)
}

// frameOf is a frame by the chapter's words, be it right or not.
func frameOf(behind, end, number, pieces int, messages ...string) string {
	return sealed("LD" + digits(behind) + digits(end) + digits(number) + digits(pieces) + digits(len(messages)) + textsOf(messages))
}

// wordOf is a word, be it right or not.
func wordOf(position int) string { return sealed("LW" + digits(position)) }

// piecesOf cuts messages by the chapter's words: as many as may be, but one at least.
func piecesOf(messages []string) [][]string {
	if len(messages) == 0 {
		return [][]string{nil}
	}
	var out [][]string
	for len(messages) > 0 {
		n, bytes := 1, len(messages[0])
		for n < len(messages) && bytes+len(messages[n]) <= 4000 {
			bytes += len(messages[n])
			n++
		}
		out = append(out, messages[:n])
		messages = messages[n:]
	}
	return out
}

// framesOf are all frames of transactions.
func framesOf(l ...transaction) []string {
	var out []string
	for _, x := range l {
		pieces := piecesOf(x.messages)
		for i, p := range pieces {
			out = append(out, frameOf(x.behind, x.end, i, len(pieces), p...))
		}
	}
	return out
}

func sender(t *testing.T, confirmed int) *link.Sender {
	t.Helper()
	s, e := link.NewSender(confirmed)
	if s == nil || e != api.OK {
		t.Fatalf("NewSender(%d): %v, %d", confirmed, s, e)
	}
	return s
}

func receiver(t *testing.T, have int) *link.Receiver {
	t.Helper()
	r, e := link.NewReceiver(have)
	if r == nil || e != api.OK {
		t.Fatalf("NewReceiver(%d): %v, %d", have, r, e)
	}
	return r
}

func put(t *testing.T, s *link.Sender, end int, messages ...string) {
	t.Helper()
	if e := s.Put(end, messages); e != api.OK {
		t.Fatalf("Put(%d, %d messages): %d", end, len(messages), e)
	}
}

func putsNot(t *testing.T, s *link.Sender, end int, messages []string, want api.Errno) {
	t.Helper()
	if e := s.Put(end, messages); e != want {
		t.Errorf("Put(%d, %d messages): %d, want %d", end, len(messages), e, want)
	}
}

// short is bytes as they are told of in a test that fails.
func short(l []string) []string {
	l = slices.Clone(l[:min(len(l), 8)])
	for i, s := range l {
		if len(s) > 40 {
			l[i] = s[:30] + ".."
		}
	}
	return l
}

// keeps holds a sender against the transactions that it keeps, and what is confirmed; it changes nothing. (A word of 0 is never above what is.)
func keeps(t *testing.T, s *link.Sender, confirmed int, l ...transaction) {
	t.Helper()
	for range 2 {
		if n := s.Left(); n != len(l) {
			t.Errorf("Left: %d, want %d", n, len(l))
		}
		if got, want := s.Frames(), framesOf(l...); !slices.Equal(got, want) {
			t.Errorf("Frames: %d: %q, want %d: %q", len(got), short(got), len(want), short(want))
		}
		if n, e := s.Word(wordOf(0)); n != confirmed || e != api.OK {
			t.Errorf("Word of 0: %d, %d, want %d", n, e, confirmed)
		}
	}
}

// takes holds what a frame makes.
func takes(t *testing.T, r *link.Receiver, frame string, end int, want ...string) {
	t.Helper()
	l, n, e := r.Take(frame)
	if e != api.OK || n != end || !slices.Equal(l, want) {
		t.Errorf("Take(%q): %d: %q, %d, %d, want %d: %q, %d", short([]string{frame}), len(l), short(l), n, e, len(want), short(want), end)
	}
}

// waits: a frame makes nothing yet.
func waits(t *testing.T, r *link.Receiver, frame string) {
	t.Helper()
	takes(t, r, frame, 0)
}

func takesNot(t *testing.T, r *link.Receiver, frame string, want api.Errno) {
	t.Helper()
	if l, n, e := r.Take(frame); e != want || n != 0 || len(l) != 0 {
		t.Errorf("Take(%q): %q, %d, %d, want %d", short([]string{frame}), short(l), n, e, want)
	}
}

// has holds a receiver against what it has, and what is done; it changes nothing.
func has(t *testing.T, r *link.Receiver, have, done int) {
	t.Helper()
	if have > 0 {
		takesNot(t, r, frameOf(have-1, have, 0, 1, "probe"), api.ErrLinkOld)
	}
	if have+2 <= top {
		takesNot(t, r, frameOf(have+1, have+2, 0, 1, "probe"), api.ErrLinkGap)
	}
	if have < top {
		is(t, "Done of more", r.Done(have+1), api.ErrLinkOrder)
	}
	for range 2 {
		if w := r.Word(); w != wordOf(done) {
			t.Errorf("Word: %q, want %q, of %d", w, wordOf(done), done)
		}
	}
}

// confirms holds what a word makes of a sender.
func confirms(t *testing.T, s *link.Sender, word string, want int) {
	t.Helper()
	if n, e := s.Word(word); n != want || e != api.OK {
		t.Errorf("Word(%q): %d, %d, want %d", word, n, e, want)
	}
}

func confirmsNot(t *testing.T, s *link.Sender, word string) {
	t.Helper()
	if n, e := s.Word(word); n != 0 || e != api.ErrLinkFrame {
		t.Errorf("Word(%q): %d, %d, want %d", short([]string{word}), n, e, api.ErrLinkFrame)
	}
}

// chars is a text of so many bytes.
func chars(c string, n int) string { return strings.Repeat(c, n) }
