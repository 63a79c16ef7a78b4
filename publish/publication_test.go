package publish_test

import (
	"math"
	"slices"
	"strings"
	"testing"

	"confluence/api"
	"confluence/publish"
)

// tables are so many right ones of a publication.
func tables(n int) []api.Published {
	var l []api.Published
	for i := range n {
		l = append(l, api.Published{Table: "t" + string(rune('a'+i)), Kinds: 1 + i%15})
	}
	return l
}

// columnNames are so many, no two the same.
func columnNames(n int) []string {
	var l []string
	for i := range n {
		l = append(l, "c"+string(rune('a'+i)))
	}
	return l
}

// long is an expression of so many bytes.
func long(n int) string { return "a = 1" + strings.Repeat(" ", n-5) }

// deep is an expression of such a depth.
func deep(n int) string { return strings.Repeat("not ", n-1) + "a" }

var rightFilters = []string{"", "a > 1", "a", "1", "null", "true", "'x'", "none = 1", "1 / 0 = 1", " a ", long(399), long(400), deep(20), "a in (1, 2) and b like 'x%' or c is not null"}

var noFilters = []string{" ", "a >", ">", "1 2", "foo(1)", "01", "(a", "a)", "A", "a = 'x", "9223372036854775808", "length(1, 2)", "\x00", "é", long(401), long(1 << 16), deep(21), "where a > 1"}

// rightPublications are at the edges of what one may be.
func rightPublications() []api.Publication {
	var l []api.Publication
	for n := 1; n <= 8; n++ {
		l = append(l, pub(tables(n)...), only(15, "", columnNames(n)...))
	}
	for kinds := 1; kinds <= 15; kinds++ {
		l = append(l, only(kinds, ""))
	}
	for _, s := range names {
		p := only(15, "", s)
		p.Name, p.Tables[0].Table = s, s
		l = append(l, p)
	}
	for _, s := range rightFilters {
		l = append(l, only(15, s), only(1, s, "id"))
	}
	wide := pub(tables(8)...)
	wide.Name = strings.Repeat("p", 16)
	for i := range wide.Tables {
		wide.Tables[i] = api.Published{Table: strings.Repeat("t", 15) + string(rune('a'+i)), Kinds: 15, Filter: long(400)}
		for k := range 8 {
			wide.Tables[i].Columns = append(wide.Tables[i].Columns, strings.Repeat("c", 15)+string(rune('a'+k)))
		}
	}
	return append(l, wide)
}

// wrongPublications have each one thing wrong.
func wrongPublications() []api.Publication {
	l := []api.Publication{
		{}, pub(), {Tables: tables(1)}, {Name: "p", Tables: []api.Published{}}, pub(tables(9)...), pub(tables(10)...), pub(slices.Repeat(tables(1), 256)...),
		pub(tables(1)[0], tables(1)[0]), pub(append(tables(7), tables(1)...)...), pub(append(tables(7), tables(7)[6])...),
		pub(api.Published{Table: "t", Kinds: 1}, api.Published{Table: "t", Kinds: 2, Columns: []string{"a"}, Filter: "a > 1"}),
		only(1, "", columnNames(9)...), only(1, "", slices.Repeat([]string{"a"}, 256)...), only(1, "", "a", "a"), only(1, "", append(columnNames(7), "ca")...), only(1, "", append(columnNames(7), "cg")...),
	}
	for _, kinds := range []int{0, 16, 17, 31, 255, 256, 257, -1, -15, math.MinInt, math.MinInt + 1, math.MaxInt} {
		l = append(l, only(kinds, ""), pub(append(tables(3), api.Published{Table: "t", Kinds: kinds})...))
	}
	for _, s := range noNames {
		named := only(1, "")
		named.Name = s
		l = append(l, named, pub(api.Published{Table: s, Kinds: 1}), pub(append(tables(7), api.Published{Table: s, Kinds: 1})...), only(1, "", s), only(1, "", append(columnNames(7), s)...), only(1, "", append([]string{s}, columnNames(7)...)...))
	}
	for _, s := range noFilters {
		l = append(l, only(1, s), pub(append(tables(7), api.Published{Table: "t", Kinds: 1, Filter: s})...))
	}
	return l
}

func noPublication(t *testing.T, what, s string) {
	t.Helper()
	if p, e := publish.DecodePublication(s); !equalPublication(p, api.Publication{}) || e != api.ErrPublishForm {
		t.Errorf("%s: DecodePublication(%x) = %+v, %d", what, s[:min(len(s), 300)], p, e)
	}
}

// publicationRight holds that one is right, and its bytes.
func publicationRight(t *testing.T, p api.Publication) {
	t.Helper()
	if !publicationByRule(p) {
		t.Errorf("%+v is not right by the rules", p)
	}
	if e := publish.Right(p); e != api.OK {
		t.Errorf("Right(%+v) = %d", p, e)
	}
	s, e := publish.EncodePublication(p)
	if want := publicationLaid(p); s != want || e != api.OK {
		t.Errorf("EncodePublication(%+v) = %x, %d, want %x", p, s, e, want)
	}
	if q, e := publish.DecodePublication(s); !equalPublication(q, p) || e != api.OK {
		t.Errorf("DecodePublication(%x) = %+v, %d, want %+v", s, q, e, p)
	}
	if x, e := publish.New(p); x == nil || e != api.OK {
		t.Errorf("New(%+v) = %d", p, e)
	}
}

func TestU2Right(t *testing.T) {
	for _, p := range rightPublications() {
		publicationRight(t, p)
	}
}

func TestU2Wrong(t *testing.T) {
	for _, p := range wrongPublications() {
		if publicationByRule(p) {
			t.Errorf("%+v is right by the rules", p)
		}
		if e := publish.Right(p); e != api.ErrPublishForm {
			t.Errorf("Right(%+v) = %d", p, e)
		}
		if s, e := publish.EncodePublication(p); s != "" || e != api.ErrPublishForm {
			t.Errorf("EncodePublication(%+v) = %x, %d", p, s, e)
		}
		if x, e := publish.New(p); x != nil || e != api.ErrPublishForm {
			t.Errorf("New(%+v) = %d", p, e)
		}
		// With a number that no byte holds they may be another one's.
		publicationBytes(t, publicationLaid(p))
	}
}

// publicationSamples are some by their bytes, written down by hand.
func publicationSamples() map[string]api.Publication {
	return map[string]api.Publication{
		"\x01p\x01\x01t\x01\x00\x00":                                 only(1, ""),
		"\x01p\x02\x01t\x0f\x02\x01a\x01b\x05a > 1\x01u\x08\x00\x00": pub(api.Published{Table: "t", Kinds: 15, Columns: []string{"a", "b"}, Filter: "a > 1"}, api.Published{Table: "u", Kinds: 8}),
		"\x02pq\x01\x02t_\x06\x01\x04name\x00":                       {Name: "pq", Tables: []api.Published{{Table: "t_", Kinds: 6, Columns: []string{"name"}}}},
		"\x01p\x01\x01t\x02\x00\x90\x03" + long(400):                 only(2, long(400)),
	}
}

func TestU2Bytes(t *testing.T) {
	for want, p := range publicationSamples() {
		if s, e := publish.EncodePublication(p); s != want || e != api.OK {
			t.Errorf("EncodePublication(%+v) = %x, %d, want %x", p, s, e, want)
		}
		publicationRight(t, p)
		if len(want) > 300 {
			continue
		}
		for i := range want {
			noPublication(t, "cut", want[:i])
		}
		for b := range 256 {
			noPublication(t, "a byte more", want+string([]byte{byte(b)}))
		}
		noPublication(t, "twice", want+want)
		noPublication(t, "many more", want+strings.Repeat("\x00", 1<<16))
		_, n := paddedPublication(p, -1)
		for pad := range n {
			s, _ := paddedPublication(p, pad)
			noPublication(t, "a number not in the fewest bytes", s)
		}
	}
}

// publicationBytes holds what DecodePublication says of any bytes against the rules.
func publicationBytes(t *testing.T, s string) bool {
	t.Helper()
	want, ok := publicationTaken(s)
	if !ok {
		noPublication(t, "by the rules", s)
		return false
	}
	if p, e := publish.DecodePublication(s); !equalPublication(p, want) || e != api.OK {
		t.Errorf("DecodePublication(%x) = %+v, %d, want %+v", s, p, e, want)
	}
	if again, e := publish.EncodePublication(want); again != s || e != api.OK {
		t.Errorf("EncodePublication(%+v) = %x, %d, want %x", want, again, e, s)
	}
	return true
}

func TestU2EachByteTurned(t *testing.T) {
	right := 0
	for s := range publicationSamples() {
		if len(s) > 300 {
			continue
		}
		for i := range s {
			for b := range 256 {
				spoilt := []byte(s)
				spoilt[i] = byte(b)
				if publicationBytes(t, string(spoilt)) {
					right++
				}
			}
		}
	}
	if right < 200 {
		t.Errorf("only %d of them are publications", right)
	}
}

func TestU2OtherBytes(t *testing.T) {
	for _, s := range []string{"", "\x00", "\x01p", "\x01p\x00", "\x00\x01\x01t\x01\x00\x00", "\x01p\x01\x01t\x00\x00\x00", "\x01p\x01\x01t\x10\x00\x00", "\x01p\x01\x00\x01\x00\x00", "\x01p\x01\x01t\x01\x01\x00\x00", "\x01p\x01\x01t\x01\x02\x01a\x01a\x00", "\x01p\x01\x01t\x01\x00\x01 ", "\x01p\x01\x01t\x01\x00\x02a>", "\x01p\x02\x01t\x01\x00\x00\x01t\x02\x00\x00", "\x01p\xff", "\x01p\x01\x01t\x01\xff", strings.Repeat("\xff", 1000), strings.Repeat("\x00", 1000), strings.Repeat("\x01", 1000)} {
		noPublication(t, "no publication", s)
	}
	noPublication(t, "9 tables", publicationLaid(pub(tables(9)...)))
	noPublication(t, "255 tables", publicationLaid(pub(slices.Repeat(tables(1), 255)...)))
	noPublication(t, "255 columns", publicationLaid(only(1, "", slices.Repeat([]string{"a"}, 255)...)))
	noPublication(t, "a filter of 401", publicationLaid(only(1, long(401))))
	noPublication(t, "a name of 17", publicationLaid(only(1, "", strings.Repeat("a", 17))))
}
