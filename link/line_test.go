package link_test

import (
	"math/rand"
	"slices"
	"strconv"
	"testing"

	"confluence/api"
	"confluence/link"
)

// told is a transaction as a receiver told it.
type told struct {
	end      int
	messages []string
}

// above are those that end above a place, as they are to be told.
func above(l []transaction, place int) []told {
	var out []told
	for _, x := range l {
		if x.end > place {
			out = append(out, told{x.end, x.messages})
		}
	}
	return out
}

func sameTold(a, b []told) bool {
	return slices.EqualFunc(a, b, func(a, b told) bool { return a.end == b.end && slices.Equal(a.messages, b.messages) })
}

// hand lets a receiver take a frame, and notes what it tells.
func hand(r *link.Receiver, f string, l []told) []told {
	messages, end, e := r.Take(f)
	if e != api.OK || end == 0 {
		return l
	}
	return append(l, told{end, messages})
}

// shortOnes are transactions of two pieces, without messages, of three pieces, of one.
func shortOnes() []transaction {
	a := chars("a", 2500)
	return []transaction{{100, 110, []string{a, "1", a}}, {110, 111, nil}, {111, 150, []string{"2", a, a, "", a}}, {150, 160, []string{"3"}}}
}

// TestK8EachPlace: a receiver begins at any place up to which all was had, also between two ends.
func TestK8EachPlace(t *testing.T) {
	all := shortOnes()
	frames := framesOf(all...)
	backward := slices.Clone(frames)
	slices.Reverse(backward)
	for place := 100; place <= 165; place++ {
		want := above(all, place)
		var got []told
		r := receiver(t, place)
		for _, f := range frames {
			got = hand(r, f, got)
		}
		if !sameTold(got, want) {
			t.Errorf("from %d: %d transactions, want %d", place, len(got), len(want))
		}
		got, r = nil, receiver(t, place)
		for range all {
			for _, f := range backward {
				got = hand(r, f, got)
			}
		}
		if !sameTold(got, want) {
			t.Errorf("backward, from %d: %d transactions, want %d", place, len(got), len(want))
		}
		has(t, r, max(place, 160), place)
	}
}

// TestK8EachRow: each row of up to five frames out of all, be they lost, doubled, or late: what is told is a beginning; and all is told when all frames come.
func TestK8EachRow(t *testing.T) {
	s := sender(t, 100)
	all := shortOnes()
	for _, x := range all {
		put(t, s, x.end, x.messages...)
	}
	frames := s.Frames()
	if len(frames) != 7 || !slices.Equal(frames, framesOf(all...)) {
		t.Fatalf("%d frames", len(frames))
	}
	want := above(all, 100)
	for row := range 7 * 7 * 7 * 7 * 7 {
		var got []told
		r := receiver(t, 100)
		for n := row; n > 0; n /= 7 {
			got = hand(r, frames[n%7], got)
			if len(got) > len(want) || !sameTold(got, want[:len(got)]) {
				t.Fatalf("row %d: %d transactions", row, len(got))
			}
		}
		for _, f := range frames {
			got = hand(r, f, got)
		}
		if !sameTold(got, want) {
			t.Fatalf("row %d, and then all: %d transactions", row, len(got))
		}
	}
}

// line is a sender and a receiver with what is under way between them, and what was Put, told, done and confirmed by now.
type line struct {
	t             *testing.T
	source        *rand.Rand
	s             *link.Sender
	r             *link.Receiver
	put           []transaction
	first         int // from where the sender is
	have          int // what the receiver had when it was made
	told          []told
	done          int
	confirmed     int
	frames, words []string
	deaths        int
}

func newLine(t *testing.T, seed int64) *line {
	first := rand.New(rand.NewSource(seed)).Intn(300)
	return &line{t: t, source: rand.New(rand.NewSource(seed)), s: sender(t, first), r: receiver(t, first), first: first, have: first, done: first, confirmed: first}
}

func (l *line) last() int {
	if len(l.put) == 0 {
		return l.first
	}
	return l.put[len(l.put)-1].end
}

func (l *line) someMessages() []string {
	var out []string
	for range l.source.Intn(5) {
		out = append(out, strconv.Itoa(len(l.put)), chars("m", l.source.Intn(2500)))
	}
	return out
}

// puts hands in one more transaction; with too many on their way it is refused.
func (l *line) puts() {
	x := transaction{l.last(), l.last() + 1 + l.source.Intn(100), l.someMessages()}
	want := api.OK
	if len(above(l.put, l.confirmed)) >= 64 {
		want = api.ErrLinkFull
	}
	is(l.t, "Put", l.s.Put(x.end, x.messages), want)
	if want == api.OK {
		l.put = append(l.put, x)
	}
}

// sends puts frames on the line: some are lost, some doubled, and all come as they like.
func (l *line) sends() {
	for _, f := range l.s.Frames() {
		for range l.source.Intn(3) {
			at := l.source.Intn(len(l.frames) + 1)
			l.frames = slices.Insert(l.frames, at, f)
		}
	}
	l.frames = l.frames[:min(len(l.frames), 300)]
}

// spoilt is a frame with a byte of it turned, or cut off.
func (l *line) spoilt(f string) string {
	b := []byte(f)
	if l.source.Intn(2) == 0 {
		return string(b[:l.source.Intn(len(b))])
	}
	b[l.source.Intn(len(b))] ^= byte(1 + l.source.Intn(255))
	return string(b)
}

// refused is a frame that the receiver must not take: spoilt, a word, of another sender far ahead or far behind.
func (l *line) refused() string {
	had := l.have
	if len(l.told) > 0 {
		had = l.told[len(l.told)-1].end
	}
	switch l.source.Intn(4) {
	case 0:
		return l.spoilt(frameOf(had, had+1, 0, 1, "spoilt"))
	case 1:
		return wordOf(had + 1)
	case 2:
		return frameOf(had+1, had+2, 0, 1, "ahead")
	}
	return frameOf(0, had, 1, 2, "behind") // of 0 no frame
}

// arrives lets some frames come, each taken off the line or left on it.
func (l *line) arrives() {
	for range l.source.Intn(40) {
		if l.source.Intn(4) == 0 {
			f := l.refused()
			if messages, end, e := l.r.Take(f); len(messages) > 0 || end != 0 || e == api.OK {
				l.t.Fatalf("Take(%q): %d messages, %d, %d", f, len(messages), end, e)
			}
		}
		if len(l.frames) == 0 {
			return
		}
		at := l.source.Intn(len(l.frames))
		f := l.frames[at]
		l.told = hand(l.r, f, l.told)
		if l.source.Intn(3) > 0 {
			l.frames = slices.Delete(l.frames, at, at+1)
		}
	}
}

// finishes lets some of what was told be done, and says so.
func (l *line) finishes() {
	if len(l.told) > 0 {
		end := l.told[l.source.Intn(len(l.told))].end
		is(l.t, "Done", l.r.Done(end), api.OK)
		l.done = max(l.done, end)
	}
	if l.source.Intn(3) > 0 {
		l.words = append(l.words, l.r.Word())
	}
}

// hears hands some words to the sender, each once or several times, in any order.
func (l *line) hears() {
	for range l.source.Intn(4) {
		if len(l.words) == 0 {
			return
		}
		w := l.words[l.source.Intn(len(l.words))]
		n, e := l.s.Word(w)
		if e != api.OK || n < l.confirmed || n > l.done {
			l.t.Fatalf("Word(%q): %d, %d, confirmed were %d, done are %d", w, n, e, l.confirmed, l.done)
		}
		l.confirmed = n
		if n, e := l.s.Word(l.spoilt(w)); n != 0 || e != api.ErrLinkFrame {
			l.t.Fatalf("Word of spoilt bytes: %d, %d", n, e)
		}
	}
}

// dies: a receiver is made anew with what was done, as the one that was there had told it; words of that one are still under way.
func (l *line) dies() {
	l.deaths++
	l.r, l.have = receiver(l.t, l.done), l.done
	l.told = nil
}

// holds what was told, and what is kept, against what was Put.
func (l *line) holds() {
	l.t.Helper()
	want := above(l.put, l.have)
	if len(l.told) > len(want) || !sameTold(l.told, want[:len(l.told)]) {
		l.t.Fatalf("told are %d transactions, which are none of what was Put above %d", len(l.told), l.have)
	}
	if n := len(above(l.put, l.confirmed)); l.s.Left() != n {
		l.t.Fatalf("Left: %d, want %d", l.s.Left(), n)
	}
}

// ends: all frames come, in their order; all is had, done, and confirmed.
func (l *line) ends() {
	l.t.Helper()
	for _, f := range l.s.Frames() {
		l.told = hand(l.r, f, l.told)
	}
	if !sameTold(l.told, above(l.put, l.have)) {
		l.t.Fatalf("told are %d transactions of %d", len(l.told), len(above(l.put, l.have)))
	}
	is(l.t, "Done", l.r.Done(l.last()), api.OK)
	confirms(l.t, l.s, l.r.Word(), l.last())
	keeps(l.t, l.s, l.last())
}

// TestK8Line: over a line that loses, doubles and holds back frames and words, with receivers that die.
func TestK8Line(t *testing.T) {
	deaths, full, transactions := 0, 0, 0
	for seed := range int64(150) {
		l := newLine(t, seed)
		for range 100 {
			switch l.source.Intn(12) {
			case 0, 1, 2, 3:
				for range 1 + l.source.Intn(12) {
					l.puts()
				}
			case 4, 5:
				l.sends()
			case 6, 7, 8:
				l.arrives()
			case 9:
				l.finishes()
			case 10:
				l.hears()
			default:
				if l.source.Intn(3) == 0 {
					l.dies()
				}
			}
			l.holds()
		}
		if len(above(l.put, l.confirmed)) == 64 {
			full++
		}
		l.ends()
		deaths += l.deaths
		transactions += len(l.put)
	}
	if deaths < 100 || full < 5 || transactions < 5000 {
		t.Errorf("only %d deaths, %d full, %d transactions", deaths, full, transactions)
	}
}

// TestK8Rounds: round behind round all that is kept is sent, and half of it lost; in the end it comes.
func TestK8Rounds(t *testing.T) {
	for seed := range int64(20) {
		source := rand.New(rand.NewSource(seed))
		s, r := sender(t, 0), receiver(t, 0)
		var all []transaction
		for i := range 64 {
			x := transaction{5 * i, 5*i + 5, slices.Repeat([]string{chars(char(i), 900)}, source.Intn(15))}
			put(t, s, x.end, x.messages...)
			all = append(all, x)
		}
		var got []told
		rounds := 0
		for ; s.Left() > 0 && rounds < 10000; rounds++ {
			for _, f := range s.Frames() {
				if source.Intn(2) == 0 {
					got = hand(r, f, got)
				}
			}
			if len(got) > 0 {
				is(t, "Done", r.Done(got[len(got)-1].end), api.OK)
			}
			if source.Intn(2) == 0 {
				s.Word(r.Word())
			}
		}
		if !sameTold(got, above(all, 0)) {
			t.Fatalf("in %d rounds: %d transactions", rounds, len(got))
		}
	}
}

// TestK8AnotherSender: a sender made anew from what was confirmed goes on where the first one was; frames of both are under way.
func TestK8AnotherSender(t *testing.T) {
	all := shortOnes()
	old, r := sender(t, 100), receiver(t, 100)
	for _, x := range all {
		put(t, old, x.end, x.messages...)
	}
	frames := old.Frames()
	var got []told
	for _, f := range frames[:4] {
		got = hand(r, f, got)
	}
	is(t, "Done", r.Done(110), api.OK)
	confirms(t, old, r.Word(), 110)
	s := sender(t, 110)
	for _, x := range all[1:] {
		put(t, s, x.end, x.messages...)
	}
	if !slices.Equal(s.Frames(), old.Frames()) {
		t.Errorf("the frames are others: %d, %d", len(s.Frames()), len(old.Frames()))
	}
	for _, f := range slices.Concat(frames, s.Frames(), frames) {
		got = hand(r, f, got)
	}
	if !sameTold(got, above(all, 100)) {
		t.Errorf("told are %d transactions", len(got))
	}
}
