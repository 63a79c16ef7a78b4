package link_test

import (
	"fmt"
	"math/rand"
	"slices"
	"strings"
	"testing"

	"confluence/api"
	"confluence/link"
)

// senderModel does what K1 to K4 say, word by word: all that was ever Put stands in one list.
type senderModel struct {
	first, confirmed int
	put, kept        []transaction
}

func isPlace(n int) bool { return 0 <= n && n <= top }

// tooLong holds messages against the bounds of K2.
func tooLong(messages []string) bool {
	pieces := piecesOf(messages)
	return len(pieces) > 65535 ||
		slices.ContainsFunc(messages, func(m string) bool { return len(m) > 4000 }) ||
		slices.ContainsFunc(pieces, func(l []string) bool { return len(l) > 65535 })
}

func (m *senderModel) Put(end int, messages []string) api.Errno {
	behind := m.first
	if len(m.put) > 0 {
		behind = m.put[len(m.put)-1].end
	}
	switch {
	case !isPlace(end):
		return api.ErrArg
	case end <= behind:
		return api.ErrLinkOrder
	case tooLong(messages):
		return api.ErrLinkLong
	case len(m.kept) >= 64:
		return api.ErrLinkFull
	}
	x := transaction{behind, end, messages}
	m.put = append(m.put, x)
	if end > m.confirmed {
		m.kept = append(m.kept, x)
	}
	return api.OK
}

func (m *senderModel) Word(s string) (int, api.Errno) {
	n, is := ruledWord(s)
	if !is {
		return 0, api.ErrLinkFrame
	}
	if n > m.confirmed {
		m.confirmed = n
		var left []transaction
		for _, x := range m.kept {
			if x.end > n {
				left = append(left, x)
			}
		}
		m.kept = left
	}
	return m.confirmed, api.OK
}

// receiverModel does what K5 to K7 say, word by word: what waits stands in one list, as it came.
type receiverModel struct {
	have, done int
	waits      []part
}

func (m *receiverModel) Take(s string) ([]string, int, api.Errno) {
	p, right := ruledFrame(s)
	switch {
	case !right:
		return nil, 0, api.ErrLinkFrame
	case p.end <= m.have:
		return nil, 0, api.ErrLinkOld
	case p.behind > m.have:
		return nil, 0, api.ErrLinkGap
	}
	if len(m.waits) > 0 {
		if w := m.waits[0]; w.end != p.end || w.behind != p.behind || w.pieces != p.pieces {
			m.waits = nil
		}
	}
	if slices.ContainsFunc(m.waits, func(w part) bool { return w.number == p.number }) {
		return nil, 0, api.ErrLinkOld
	}
	m.waits = append(m.waits, p)
	if len(m.waits) < p.pieces {
		return nil, 0, api.OK
	}
	slices.SortFunc(m.waits, func(a, b part) int { return a.number - b.number })
	var all []string
	for _, w := range m.waits {
		all = append(all, w.messages...)
	}
	m.have, m.waits = p.end, nil
	return all, p.end, api.OK
}

func (m *receiverModel) Done(end int) api.Errno {
	switch {
	case !isPlace(end):
		return api.ErrArg
	case end > m.have:
		return api.ErrLinkOrder
	}
	m.done = max(m.done, end)
	return api.OK
}

// script asks a sender and a receiver, and what they ought to be, the same.
type script struct {
	t        *testing.T
	source   *rand.Rand
	s        *link.Sender
	r        *link.Receiver
	sm       *senderModel
	rm       *receiverModel
	seen     []string // frames that were told, of late
	trail    []string
	answered map[string]int
}

func begun(t *testing.T, seed int64, answered map[string]int) *script {
	source := rand.New(rand.NewSource(seed))
	from, have := source.Intn(20), source.Intn(20)
	if source.Intn(8) == 0 {
		from, have = top-40+source.Intn(40), top-40+source.Intn(40)
	}
	return &script{t: t, source: source, answered: answered, s: sender(t, from), r: receiver(t, have), sm: &senderModel{first: from, confirmed: from}, rm: &receiverModel{have: have, done: have}}
}

// answers holds one answer against another, and counts it.
func (x *script) answers(what, arguments string, got, want string) {
	x.t.Helper()
	x.trail = append(x.trail, fmt.Sprintf("%s(%.80q): %.80s", what, arguments, got))
	if got != want {
		x.t.Fatalf("behind %q: %s(%.200q): %.200s, want %.200s", x.trail[max(0, len(x.trail)-20):], what, arguments, got, want)
	}
	x.answered[what+" "+got[strings.LastIndex(got, " ")+1:]]++
}

// somePlace is about a place, seldom none.
func (x *script) somePlace(about int) int {
	if x.source.Intn(30) == 0 {
		return noPositions[x.source.Intn(len(noPositions))]
	}
	return about - 4 + x.source.Intn(9)
}

func (x *script) someMessages() []string {
	var out []string
	for range x.source.Intn(4) {
		size := []int{0, 1, 2, 1999, 2000, 2001, 3999, 4000}[x.source.Intn(8)]
		if x.source.Intn(40) == 0 {
			size = 4001
		}
		out = append(out, chars(char('a'+x.source.Intn(26)), size))
	}
	return out
}

func (x *script) puts() {
	about := x.sm.first
	if len(x.sm.put) > 0 {
		about = x.sm.put[len(x.sm.put)-1].end
	}
	end, messages := x.somePlace(about+3), x.someMessages()
	x.answers("Put", fmt.Sprint(end, len(messages)), fmt.Sprintf("is %d", x.s.Put(end, messages)), fmt.Sprintf("is %d", x.sm.Put(end, messages)))
}

// someFrame is one of the sender, one that came already, one about what the receiver has, or any bytes.
func (x *script) someFrame() string {
	switch x.source.Intn(8) {
	case 0, 1, 2:
		if l := x.s.Frames(); len(l) > 0 {
			return l[x.source.Intn(min(len(l), 6))]
		}
	case 3:
		if len(x.seen) > 0 {
			return x.seen[x.source.Intn(len(x.seen))]
		}
	case 4:
		return mutated(x.source)
	}
	end := x.somePlace(x.rm.have + 3)
	pieces := 1 + x.source.Intn(3)
	behind := end - 1 - x.source.Intn(4)
	return frameOf(max(behind, 0), max(end, 0), x.source.Intn(pieces+x.source.Intn(2)), pieces, x.someMessages()...)
}

func (x *script) takes() {
	f := x.someFrame()
	got, n, e := x.r.Take(f)
	want, m, d := x.rm.Take(f)
	x.answers("Take", f, fmt.Sprintf("%q %d whole%t is %d", got, n, n > 0, e), fmt.Sprintf("%q %d whole%t is %d", want, m, m > 0, d))
	if e == api.OK && n > 0 {
		x.answered["Take whole"]++
	}
	x.seen = append(x.seen, f)
	x.seen = x.seen[max(0, len(x.seen)-10):]
}

func (x *script) finishes() {
	end := x.somePlace(x.rm.have - 2)
	x.answers("Done", fmt.Sprint(end), fmt.Sprintf("is %d", x.r.Done(end)), fmt.Sprintf("is %d", x.rm.Done(end)))
}

func (x *script) hears() {
	w := x.r.Word()
	switch x.source.Intn(6) {
	case 0:
		w = mutated(x.source)
	case 1:
		w = x.someFrame()
	case 2:
		w = wordOf(max(0, x.somePlace(x.sm.confirmed+6)))
	}
	got, e := x.s.Word(w)
	want, d := x.sm.Word(w)
	x.answers("Word", w, fmt.Sprintf("%d is %d", got, e), fmt.Sprintf("%d is %d", want, d))
}

// alike: both tell the same when they are only asked.
func (x *script) alike() {
	x.t.Helper()
	if got, want := x.s.Frames(), framesOf(x.sm.kept...); !slices.Equal(got, want) {
		x.t.Fatalf("behind %q: Frames: %q, want %q", x.trail[max(0, len(x.trail)-20):], short(got), short(want))
	}
	if got, want := x.s.Left(), len(x.sm.kept); got != want {
		x.t.Fatalf("behind %q: Left: %d, want %d", x.trail[max(0, len(x.trail)-20):], got, want)
	}
	if got, want := x.r.Word(), wordOf(x.rm.done); got != want {
		x.t.Fatalf("behind %q: Word: %q, want %q", x.trail[max(0, len(x.trail)-20):], got, want)
	}
}

// TestModel: random scripts against the words of K1 to K7; some put more than they confirm.
func TestModel(t *testing.T) {
	answered := map[string]int{}
	for seed := range int64(120) {
		x := begun(t, seed, answered)
		for range 250 {
			switch n := x.source.Intn(10); {
			case n < 3 || seed%20 == 0 && n < 8:
				x.puts()
			case n < 7:
				x.takes()
			case n < 8 || seed%20 == 0:
				x.finishes()
			default:
				x.hears()
			}
			x.alike()
		}
	}
	for _, what := range []string{"Put 0", "Put 1", "Put 213", "Put 214", "Put 215", "Take 0", "Take whole", "Take 210", "Take 211", "Take 212", "Done 0", "Done 1", "Done 214", "Word 0", "Word 210"} {
		if answered[what] < 50 {
			t.Errorf("%s came %d times alone", what, answered[what])
		}
	}
}

// TestModelNew: both begin at the same places.
func TestModelNew(t *testing.T) {
	for n := -3; n < 300; n++ {
		for _, at := range []int{n, top - n} {
			s, e := link.NewSender(at)
			r, f := link.NewReceiver(at)
			if is := isPlace(at); (s != nil) != is || (r != nil) != is || (e == api.OK) != is || (f == api.OK) != is || !is && (e != api.ErrArg || f != api.ErrArg) {
				t.Errorf("at %d: %v, %d, %v, %d", at, s != nil, e, r != nil, f)
			}
		}
	}
}
