package link_test

import (
	"fmt"
	"math/rand"
	"slices"
	"sync"
	"testing"

	"confluence/api"
)

// roomy is a list with room behind it, in which something stands; whole is all of that memory.
func roomy(messages ...string) (l, whole []string) {
	whole = append(slices.Clone(messages), slices.Repeat([]string{"mine"}, 9)...)
	return whole[:len(messages)], whole
}

// spoil writes over a list, and all the room behind it.
func spoil(l []string) {
	l = l[:cap(l)]
	for i := range l {
		l[i] = "spoilt"
	}
}

// someLists are messages of one piece, of several, of none, and such as are too long.
func someLists() [][]string {
	a := chars("a", 3000)
	return [][]string{nil, {""}, {"a"}, {"a", "b", "c"}, {a, "b", a, "c"}, {a, a, a}, {a, chars("x", 4001)}, {chars("x", 4001), a}, {"", "", a, a, "", ""}}
}

// TestHandedInIsLeft: neither the messages nor the room behind them are written into, be they taken or refused.
func TestHandedInIsLeft(t *testing.T) {
	for _, n := range []int{0, 63, 64} {
		s := sender(t, 100)
		for i := range n {
			put(t, s, 101+i)
		}
		for i, messages := range someLists() {
			for _, end := range []int{-1, 100, 200 + i, 200 + i, top + 1} {
				l, whole := roomy(messages...)
				want := slices.Clone(whole)
				s.Put(end, l)
				s.Frames()
				s.Word(wordOf(end))
				s.Frames()
				if !slices.Equal(whole, want) {
					t.Errorf("Put(%d, %d messages): the memory is %q now", end, len(l), short(whole))
				}
			}
		}
	}
}

// TestHandedInIsNotKept: messages that are written over behind a Put are told as they were.
func TestHandedInIsNotKept(t *testing.T) {
	s := sender(t, 0)
	var all []transaction
	one, _ := roomy("a", "b", "c", "d", "e")
	for i, messages := range someLists() {
		l, _ := roomy(messages...)
		if s.Put(10*i+1, l) == api.OK {
			all = append(all, transaction{0, 10*i + 1, messages})
		}
		spoil(l)
		// One list that is used again for each transaction.
		copy(one, []string{char('0' + i), chars("x", 3000), chars("y", 1001), char('5' + i), "z"})
		all = append(all, transaction{0, 10*i + 2, slices.Clone(one)})
		put(t, s, 10*i+2, one...)
		if e := s.Put(10*i+3, one); e != api.OK {
			t.Errorf("Put: %d", e)
		}
		all = append(all, transaction{0, 10*i + 3, slices.Clone(one)})
		spoil(one)
	}
	for i := 1; i < len(all); i++ {
		all[i].behind = all[i-1].end
	}
	keeps(t, s, 0, all...)
}

// TestFramesAreNew: what came out is written over, with its room; nothing that is told hangs on it, nor what came out elsewhere.
func TestFramesAreNew(t *testing.T) {
	for n := range 5 {
		s := sender(t, 100)
		all := shortOnes()[:n]
		for _, x := range all {
			put(t, s, x.end, x.messages...)
		}
		a, b := s.Frames(), s.Frames()
		spoil(a)
		keeps(t, s, 100, all...)
		if !slices.Equal(b, framesOf(all...)) {
			t.Errorf("what came out elsewhere is %q", short(b))
		}
		b = append(b[:len(b)/2], slices.Repeat([]string{"mine"}, cap(b))...)
		keeps(t, s, 100, all...)
		put(t, s, 200, "more")
		confirms(t, s, wordOf(110), 110)
		spoil(b)
		for len(all) > 0 && all[0].end <= 110 {
			all = all[1:]
		}
		behind := 100
		if n > 0 {
			behind = shortOnes()[n-1].end
		}
		keeps(t, s, 110, append(all[:len(all):len(all)], transaction{behind, 200, []string{"more"}})...)
	}
}

// TestFramesStay: what came out stays as it was, whatever is called behind it.
func TestFramesStay(t *testing.T) {
	s := sender(t, 100)
	for _, x := range shortOnes() {
		put(t, s, x.end, x.messages...)
	}
	f := s.Frames()
	confirms(t, s, wordOf(111), 111)
	put(t, s, 170, "more")
	put(t, s, 180, "and more")
	s.Frames()
	confirms(t, s, wordOf(top), top)
	s.Frames()
	if !slices.Equal(f, framesOf(shortOnes()...)) {
		t.Errorf("what came out is %q", short(f))
	}
}

// TestToldIsNew: messages that were told are written over, with their room; nothing that is told elsewhere or later hangs on them.
func TestToldIsNew(t *testing.T) {
	a, b := receiver(t, 100), receiver(t, 100)
	for _, x := range shortOnes() {
		for _, f := range framesOf(x) {
			l, n, e := a.Take(f)
			is(t, "Take", e, api.OK)
			other, m, e := b.Take(f)
			is(t, "Take", e, api.OK)
			spoil(l)
			takesNot(t, a, f, api.ErrLinkOld)
			if n == 0 && m == 0 {
				continue
			}
			if n != x.end || m != x.end || len(l) != len(x.messages) || !slices.Equal(other, x.messages) {
				t.Errorf("%d messages and %d; the other one told %q, %d", len(l), n, short(other), m)
			}
		}
	}
	has(t, a, 160, 100)
	has(t, b, 160, 100)
}

// TestToldStays: what was told stays as it was, whatever comes behind it.
func TestToldStays(t *testing.T) {
	r := receiver(t, 100)
	var got []told
	for _, f := range framesOf(shortOnes()...) {
		got = hand(r, f, got)
	}
	for end := 161; end < 300; end++ {
		waits(t, r, frameOf(end-1, end, 1, 2, "more"))
		takes(t, r, frameOf(end-1, end, 0, 2, "one"), end, "one", "more")
	}
	if !sameTold(got, above(shortOnes(), 100)) {
		t.Errorf("what was told are %d transactions", len(got))
	}
}

// TestSideBySide: two senders and two receivers, called between one another, with the same places and other messages, have nothing to do with one another.
func TestSideBySide(t *testing.T) {
	a, b := sender(t, 100), sender(t, 100)
	ra, rb := receiver(t, 100), receiver(t, 100)
	x, y := chars("x", 2500), chars("y", 2500)
	put(t, a, 110, x, x)
	keeps(t, b, 100)
	put(t, b, 110, y, y, y)
	put(t, a, 120, "a")
	fa, fb := a.Frames(), b.Frames()
	waits(t, ra, fa[0])
	waits(t, rb, fb[0])
	waits(t, rb, fb[2])
	takes(t, ra, fa[1], 110, x, x)
	has(t, rb, 100, 100)
	takes(t, rb, fb[1], 110, y, y, y)
	takes(t, ra, fa[2], 120, "a")
	is(t, "Done", ra.Done(120), api.OK)
	has(t, ra, 120, 120)
	has(t, rb, 110, 100)
	confirms(t, a, ra.Word(), 120)
	keeps(t, a, 120)
	keeps(t, b, 100, transaction{100, 110, []string{y, y, y}})
	confirms(t, b, rb.Word(), 100)
	is(t, "Done", rb.Done(110), api.OK)
	confirms(t, b, rb.Word(), 110)
	putsNot(t, a, 120, nil, api.ErrLinkOrder)
	put(t, b, 120, "b")
	keeps(t, b, 110, transaction{110, 120, []string{"b"}})
	keeps(t, a, 120)
}

// TestPairsAtOneTime: pairs of their own, at a time, with one list of messages for all.
func TestPairsAtOneTime(t *testing.T) {
	messages, whole := roomy(chars("a", 3000), "b", chars("c", 3000))
	var all sync.WaitGroup
	for n := range 8 {
		all.Go(func() {
			s, r := sender(t, n), receiver(t, n)
			for end := n + 1; end < n+100; end++ {
				put(t, s, end, messages...)
				f := s.Frames()
				waits(t, r, f[1])
				takes(t, r, f[0], end, messages...)
				is(t, "Done", r.Done(end), api.OK)
				confirms(t, s, r.Word(), end)
			}
			keeps(t, s, n+99)
		})
	}
	all.Wait()
	if !slices.Equal(whole[3:], slices.Repeat([]string{"mine"}, 9)) {
		t.Errorf("the room is %q", short(whole))
	}
}

// TestOneSenderAtOneTime: one sender, out of several goroutines: those that were taken stand in their order, each behind the one ahead of it.
func TestOneSenderAtOneTime(t *testing.T) {
	s := sender(t, 0)
	taken := make([][]int, 8)
	var all sync.WaitGroup
	for n := range taken {
		all.Go(func() {
			confirmed := 0
			for i := range 40 {
				end := 8*i + n + 1
				switch e := s.Put(end, []string{fmt.Sprint(end), chars("m", 4000)}); e {
				case api.OK:
					taken[n] = append(taken[n], end)
				case api.ErrLinkOrder, api.ErrLinkFull:
				default:
					t.Errorf("Put: %d", e)
				}
				f := s.Frames()
				if len(f)%2 != 0 || len(f) > 128 || s.Left() > 64 {
					t.Errorf("%d frames", len(f))
				}
				spoil(f)
				now, e := s.Word(wordOf(4 * i))
				if now < confirmed || now < 4*i || e != api.OK {
					t.Errorf("Word: %d, %d, behind %d", now, e, confirmed)
				}
				confirmed = now
			}
		})
	}
	all.Wait()
	ends := slices.Concat(taken...)
	slices.Sort(ends)
	var want []transaction
	behind := 0
	for _, end := range ends {
		if end > 4*39 {
			want = append(want, transaction{behind, end, []string{fmt.Sprint(end), chars("m", 4000)}})
		}
		behind = end
	}
	keeps(t, s, 4*39, want...)
}

// TestOneReceiverAtOneTime: one receiver, out of several goroutines: each transaction is told whole, to one of them.
func TestOneReceiverAtOneTime(t *testing.T) {
	s, r := sender(t, 0), receiver(t, 0)
	var want []told
	for i := range 40 {
		l := slices.Repeat([]string{fmt.Sprint(i), chars("m", 1500)}, i%6)
		put(t, s, i+1, l...)
		want = append(want, told{i + 1, l})
	}
	frames := s.Frames()
	lists := make([][]told, 8)
	var all sync.WaitGroup
	for n := range lists {
		all.Go(func() {
			source := rand.New(rand.NewSource(int64(n)))
			for range 20 {
				for _, f := range frames {
					if source.Intn(8) == 0 {
						f = frames[source.Intn(len(frames))]
					}
					before := len(lists[n])
					lists[n] = hand(r, f, lists[n])
					if len(lists[n]) > before {
						is(t, "Done", r.Done(lists[n][before].end), api.OK)
					}
					if _, is := ruledWord(r.Word()); !is {
						t.Error("Word is none")
					}
				}
			}
		})
	}
	all.Wait()
	got := slices.Concat(lists...)
	for _, f := range frames {
		got = hand(r, f, got)
	}
	slices.SortFunc(got, func(a, b told) int { return a.end - b.end })
	if !sameTold(got, want) {
		t.Errorf("told are %d transactions", len(got))
	}
	is(t, "Done", r.Done(40), api.OK)
	has(t, r, 40, 40)
}

// TestWordsAtOneTime: one word, asked by many while more is done: it never falls, and the last one tells all.
func TestWordsAtOneTime(t *testing.T) {
	r := receiver(t, 0)
	takes(t, r, frameOf(0, 1000, 0, 1), 1000)
	s := sender(t, 0)
	var all sync.WaitGroup
	for n := range 8 {
		all.Go(func() {
			last := 0
			for i := range 200 {
				is(t, "Done", r.Done(5*i+n%5), api.OK)
				at, is := ruledWord(r.Word())
				if !is || at < last || at < 5*i+n%5 || at > 999 {
					t.Errorf("Word tells %d, behind %d", at, last)
				}
				last = at
				if now, e := s.Word(r.Word()); now < at || now > 999 || e != api.OK {
					t.Errorf("confirmed is %d, %d", now, e)
				}
			}
		})
	}
	all.Wait()
	has(t, r, 1000, 999)
	confirms(t, s, r.Word(), 999)
}
