package link_test

import (
	"math"
	"testing"

	"confluence/api"
	"confluence/link"
)

func TestK1(t *testing.T) {
	for _, n := range []int{0, 1, 100, 8191, 8192, 9000, top - 1, top} {
		s := sender(t, n)
		keeps(t, s, n)
		putsNot(t, s, n, nil, api.ErrLinkOrder)
		if n < top {
			put(t, s, n+1, "a")
			keeps(t, s, n, transaction{n, n + 1, []string{"a"}})
		}
	}
	for _, n := range noPositions {
		if s, e := link.NewSender(n); s != nil || e != api.ErrArg {
			t.Errorf("NewSender(%d): %v, %d", n, s, e)
		}
	}
}

// TestK2Ends: no positions; at, below and one above what was Put last, or what was confirmed when the sender was made.
func TestK2Ends(t *testing.T) {
	for _, confirmed := range []int{0, 1, 2, 100, 8192, top - 3, top - 2} {
		s := sender(t, confirmed)
		var all []transaction
		for last := confirmed; len(all) < 3 && last < top; last = all[len(all)-1].end {
			for _, end := range noPositions {
				putsNot(t, s, end, []string{"no"}, api.ErrArg)
			}
			for _, end := range []int{0, 1, confirmed - 1, confirmed, last - 100, last - 1, last} {
				if end >= 0 && end <= last {
					putsNot(t, s, end, []string{"no"}, api.ErrLinkOrder)
				}
			}
			keeps(t, s, confirmed, all...)
			put(t, s, last+1, "yes")
			all = append(all, transaction{last, last + 1, []string{"yes"}})
			keeps(t, s, confirmed, all...)
		}
	}
	s := sender(t, 0)
	put(t, s, 70, "a")
	put(t, s, 1000, "b")
	put(t, s, top, "c")
	putsNot(t, s, top, nil, api.ErrLinkOrder)
	putsNot(t, s, top+1, nil, api.ErrArg)
	keeps(t, s, 0, transaction{0, 70, []string{"a"}}, transaction{70, 1000, []string{"b"}}, transaction{1000, top, []string{"c"}})
}

// TestK2Behind: it is what was confirmed when the sender was made that counts, not what words say later; and what was Put last, be it kept or not.
func TestK2Behind(t *testing.T) {
	s := sender(t, 100)
	confirms(t, s, wordOf(200), 200)
	putsNot(t, s, 100, nil, api.ErrLinkOrder)
	put(t, s, 101, "a")
	keeps(t, s, 200)
	put(t, s, 199, "b")
	put(t, s, 200, "c")
	keeps(t, s, 200)
	putsNot(t, s, 200, nil, api.ErrLinkOrder)
	put(t, s, 201, "d")
	d := transaction{200, 201, []string{"d"}}
	keeps(t, s, 200, d)
	confirms(t, s, wordOf(201), 201)
	keeps(t, s, 201)
	put(t, s, 300, "e")
	keeps(t, s, 201, transaction{201, 300, []string{"e"}})

	s = sender(t, 100)
	confirms(t, s, wordOf(200), 200)
	put(t, s, 300, "a")
	keeps(t, s, 200, transaction{100, 300, []string{"a"}})
	confirms(t, s, wordOf(500), 500)
	put(t, s, 400, "b")
	put(t, s, 600, "c")
	keeps(t, s, 500, transaction{400, 600, []string{"c"}})
}

// TestK2Messages: each list whose pieces are of interest, told and taken again.
func TestK2Messages(t *testing.T) {
	most := chars("x", 4000)
	for i, try := range []struct {
		messages []string
		pieces   int
	}{
		{nil, 1}, {[]string{}, 1}, {[]string{""}, 1}, {[]string{"", ""}, 1}, {[]string{"a"}, 1}, {[]string{most}, 1},
		{[]string{most, ""}, 1}, {[]string{"", most}, 1}, {[]string{"", "", most, "", ""}, 1}, {[]string{most, "a"}, 2}, {[]string{"a", most}, 2}, {[]string{most, most}, 2},
		{[]string{most, "", "a"}, 2}, {[]string{most, "", "", most}, 2}, {[]string{"a", most, "a"}, 3}, {[]string{most, "a", most}, 3}, {[]string{"a", "", most, "", "a"}, 3},
		{[]string{chars("a", 2000), chars("b", 2000)}, 1}, {[]string{chars("a", 2000), chars("b", 2001)}, 2}, {[]string{chars("a", 2001), chars("b", 2000)}, 2},
		{[]string{chars("a", 1), chars("b", 3999)}, 1}, {[]string{chars("a", 3999), chars("b", 1), "c"}, 2}, {[]string{chars("a", 1999), chars("b", 2000), "c", "d"}, 2},
		{[]string{chars("a", 3000), chars("b", 3000), chars("c", 1000), "d"}, 3}, {[]string{chars("a", 3000), chars("b", 1000), chars("c", 3000), chars("d", 1000)}, 2},
		{[]string{chars("a", 1333), chars("b", 1333), chars("c", 1334)}, 1}, {[]string{chars("a", 1334), chars("b", 1333), chars("c", 1334)}, 2},
		{[]string{"\x00", "\xff\x80", "LD", "LW", "\n"}, 1},
	} {
		s, r := sender(t, 10), receiver(t, 10)
		put(t, s, 20, try.messages...)
		keeps(t, s, 10, transaction{10, 20, try.messages})
		f := s.Frames()
		if len(f) != try.pieces {
			t.Errorf("line %d: %d pieces, want %d", i, len(f), try.pieces)
			continue
		}
		for _, x := range f[:len(f)-1] {
			waits(t, r, x)
		}
		takes(t, r, f[len(f)-1], 20, try.messages...)
	}
}

// TestK2EachSum: two messages around what one piece takes.
func TestK2EachSum(t *testing.T) {
	for _, a := range []int{0, 1, 127, 128, 2000, 3871, 3872, 3999, 4000} {
		for sum := 3998; sum <= 4002; sum++ {
			b := sum - a
			if b < 0 {
				continue
			}
			s := sender(t, 0)
			l := []string{chars("a", a), chars("b", b)}
			if b > 4000 {
				putsNot(t, s, 1, l, api.ErrLinkLong)
				keeps(t, s, 0)
				continue
			}
			put(t, s, 1, l...)
			want := 1
			if sum > 4000 {
				want = 2
			}
			if n := len(s.Frames()); n != want {
				t.Errorf("%d and %d bytes: %d pieces, want %d", a, b, n, want)
			}
			keeps(t, s, 0, transaction{0, 1, l})
		}
	}
}

// TestK2Long: messages that are too long, wherever they stand; what is refused leaves the sender as it was.
func TestK2Long(t *testing.T) {
	s := sender(t, 10)
	put(t, s, 20, "a")
	a := transaction{10, 20, []string{"a"}}
	for _, n := range []int{4001, 4002, 8000, 65536, 1 << 20} {
		long := chars("x", n)
		for _, l := range [][]string{{long}, {"", long}, {"a", long}, {long, "a"}, {long, long}, {chars("x", 4000), long}, {"a", long, "b"}, {"a", "b", "", long}} {
			putsNot(t, s, 21, l, api.ErrLinkLong)
		}
	}
	keeps(t, s, 10, a)
	put(t, s, 21, "b")
	keeps(t, s, 10, a, transaction{20, 21, []string{"b"}})
}

// TestK2ManyMessages: 65535 in one piece, and one more; in several pieces there may be more.
func TestK2ManyMessages(t *testing.T) {
	for _, try := range []struct {
		ahead, behind []string // around messages without bytes
		empty         int
		want          api.Errno
	}{
		{nil, nil, 65534, api.OK}, {nil, nil, 65535, api.OK}, {nil, nil, 65536, api.ErrLinkLong}, {nil, nil, 65537, api.ErrLinkLong}, {nil, nil, 1 << 18, api.ErrLinkLong},
		{[]string{"a"}, nil, 65534, api.OK}, {[]string{"a"}, nil, 65535, api.ErrLinkLong}, {nil, []string{"a"}, 65534, api.OK}, {nil, []string{"a"}, 65535, api.ErrLinkLong},
		{[]string{chars("a", 4000)}, nil, 65534, api.OK}, {[]string{chars("a", 4000)}, nil, 65535, api.ErrLinkLong}, {[]string{chars("a", 4000)}, []string{"b"}, 65534, api.OK}, {[]string{chars("a", 4000)}, []string{"b"}, 65535, api.ErrLinkLong},
		{[]string{chars("a", 4000), "b"}, nil, 65534, api.OK}, {[]string{chars("a", 4000), "b"}, nil, 65535, api.ErrLinkLong},
	} {
		s := sender(t, 0)
		var l []string
		l = append(l, try.ahead...)
		l = append(l, make([]string, try.empty)...)
		l = append(l, try.behind...)
		putsNot(t, s, 5, l, try.want)
		if try.want != api.OK {
			keeps(t, s, 0)
			continue
		}
		keeps(t, s, 0, transaction{0, 5, l})
		r := receiver(t, 0)
		f := s.Frames()
		for _, x := range f[:len(f)-1] {
			waits(t, r, x)
		}
		takes(t, r, f[len(f)-1], 5, l...)
	}
	// One piece may have 65535, and so may the next.
	var l []string
	for range 2 {
		l = append(l, chars("a", 4000))
		l = append(l, make([]string, 65534)...)
	}
	s := sender(t, 0)
	put(t, s, 5, l...)
	if n := len(s.Frames()); n != 2 {
		t.Errorf("%d pieces", n)
	}
	putsNot(t, s, 6, append(l, ""), api.ErrLinkLong)
	keeps(t, s, 0, transaction{0, 5, l})
}

// TestK2ManyPieces: 65535 pieces, and one more. Those come in the opposite order.
func TestK2ManyPieces(t *testing.T) {
	a := chars("a", 2001)
	l := make([]string, 65536)
	for i := range l {
		l[i] = a
	}
	s, r := sender(t, 0), receiver(t, 0)
	putsNot(t, s, 5, l, api.ErrLinkLong)
	putsNot(t, s, 5, append(l[:65535:65535], "", a, a), api.ErrLinkLong)
	if n := s.Left(); n != 0 {
		t.Fatalf("Left: %d", n)
	}
	l = l[:65535]
	l[0], l[300], l[65534] = a+"first", a+"between", a+"last"
	put(t, s, 5, l...)
	f := s.Frames()
	if len(f) != 65535 || s.Left() != 1 {
		t.Fatalf("%d frames", len(f))
	}
	for i := len(f) - 1; i > 0; i-- {
		if f[i] != frameOf(0, 5, i, 65535, l[i]) {
			t.Fatalf("the frame %d is another one", i)
		}
		waits(t, r, f[i])
	}
	takesNot(t, r, f[65534], api.ErrLinkOld)
	has(t, r, 0, 0)
	takes(t, r, f[0], 5, l...)
	has(t, r, 5, 0)
}

// TestK2Full: 63, 64 and 65 that are not confirmed; room comes with words alone.
func TestK2Full(t *testing.T) {
	s := sender(t, 100)
	var all []transaction
	for i := range 64 {
		m := []string{chars("m", i)}
		put(t, s, 110+10*i, m...)
		all = append(all, transaction{100 + 10*i, 110 + 10*i, m})
		if i >= 62 {
			keeps(t, s, 100, all...)
		}
	}
	full := func() {
		t.Helper()
		for _, end := range []int{all[len(all)-1].end + 1, all[len(all)-1].end + 1000, top} {
			putsNot(t, s, end, []string{"no"}, api.ErrLinkFull)
			putsNot(t, s, end, nil, api.ErrLinkFull)
		}
	}
	full()
	keeps(t, s, 100, all...)
	for _, n := range []int{0, 99, 100, 101, 109} {
		s.Word(wordOf(n))
		full()
	}
	keeps(t, s, 109, all...)
	confirms(t, s, wordOf(110), 110)
	all = append(all[1:], transaction{740, 741, []string{"one more"}})
	put(t, s, 741, "one more")
	full()
	keeps(t, s, 110, all...)
	confirms(t, s, wordOf(140), 140)
	all = all[3:]
	for end := 742; len(all) < 64; end++ {
		put(t, s, end)
		all = append(all, transaction{end - 1, end, nil})
	}
	full()
	keeps(t, s, 140, all...)
	confirms(t, s, wordOf(top), top)
	keeps(t, s, top)
	for i := range 100 {
		put(t, s, 800+i, "confirmed already")
	}
	keeps(t, s, top)
}

// TestK2FirstNamed: of several errors the one that is named first.
func TestK2FirstNamed(t *testing.T) {
	for _, n := range []int{0, 1, 63, 64} {
		s := sender(t, 100)
		for i := range n {
			put(t, s, 101+i)
		}
		for _, long := range [][]string{{chars("x", 4001)}, make([]string, 65536)} {
			putsNot(t, s, -1, long, api.ErrArg)
			putsNot(t, s, math.MinInt, long, api.ErrArg)
			putsNot(t, s, top+1, long, api.ErrArg)
			putsNot(t, s, 100+n, long, api.ErrLinkOrder)
			putsNot(t, s, 0, long, api.ErrLinkOrder)
			putsNot(t, s, 101+n, long, api.ErrLinkLong)
			putsNot(t, s, top, long, api.ErrLinkLong)
		}
		putsNot(t, s, -1, nil, api.ErrArg)
		putsNot(t, s, 100+n, nil, api.ErrLinkOrder)
		if n == 64 {
			putsNot(t, s, 101+n, nil, api.ErrLinkFull)
		}
		if s.Left() != n {
			t.Errorf("Left: %d, want %d", s.Left(), n)
		}
	}
	s := sender(t, 0)
	confirms(t, s, wordOf(top), top)
	putsNot(t, s, 5, []string{chars("x", 4001)}, api.ErrLinkLong)
	put(t, s, 5)
	putsNot(t, s, 5, nil, api.ErrLinkOrder)
}

func TestK3Nothing(t *testing.T) {
	s := sender(t, 7)
	for range 3 {
		if f := s.Frames(); len(f) != 0 {
			t.Errorf("Frames of nothing: %q", f)
		}
		if n := s.Left(); n != 0 {
			t.Errorf("Left of nothing: %d", n)
		}
	}
	put(t, s, 8, "a")
	confirms(t, s, wordOf(8), 8)
	keeps(t, s, 8)
}

// TestK3Order: transactions in their order, of each its pieces in theirs.
func TestK3Order(t *testing.T) {
	s := sender(t, 0)
	var all []transaction
	for i := range 20 {
		var l []string
		for k := range i % 5 {
			l = append(l, chars(char('a'+k), 1500*k%4001))
		}
		put(t, s, 300*i+1, l...)
		behind := 300 * (i - 1)
		all = append(all, transaction{max(behind+1, 0), 300*i + 1, l})
		all[0].behind = 0
		keeps(t, s, 0, all...)
	}
}

// TestK4Places: words below what is confirmed, at it, above it, between two ends, at each end, above all that was Put.
func TestK4Places(t *testing.T) {
	all := []transaction{{100, 110, []string{"a"}}, {110, 111, []string{"b", chars("c", 4000)}}, {111, 150, nil}, {150, 8192, []string{"d"}}, {8192, top - 1, []string{"e"}}}
	places := []int{0, 1, 99, 100, 101, 109, 110, 111, 112, 149, 150, 151, 8191, 8192, 8193, top - 2, top - 1, top}
	for _, first := range places {
		for _, second := range places {
			s := sender(t, 100)
			for _, x := range all {
				put(t, s, x.end, x.messages...)
			}
			confirmed, left := 100, all
			for _, n := range []int{first, second, first} {
				confirmed = max(confirmed, n)
				for len(left) > 0 && left[0].end <= confirmed {
					left = left[1:]
				}
				confirms(t, s, wordOf(n), confirmed)
				keeps(t, s, confirmed, left...)
			}
			putsNot(t, s, top-1, nil, api.ErrLinkOrder)
			put(t, s, top, "f")
			if confirmed < top {
				left = append(left[:len(left):len(left)], transaction{top - 1, top, []string{"f"}})
			}
			keeps(t, s, confirmed, left...)
		}
	}
}
