package copying_test

import (
	"fmt"
	"math/rand"
	"slices"
	"strings"
	"testing"

	"confluence/api"
	"confluence/copying"
	"confluence/publish"
)

// eight is another table as it is told, of the number 8.
func eight() api.Table { return told(8, "u", "id t", "n i?") }

// twoTables is a store with the local tables of nine and eight.
func twoTables(t *testing.T) *desk {
	t.Helper()
	k := newDesk(t)
	k.create("u", 0, "id t", "n i?")
	return k
}

// copyOfTwo is a right copy of both.
func copyOfTwo() []api.Message {
	return whole(head(nine()), row(9, 1, "a"), row(9, 2, nil), head(eight()), row(8, "x", 1), row(8, "", nil))
}

// others are messages of the kinds that no copy has.
func others() []api.Message {
	return []api.Message{
		{Kind: api.MsgBegin, Xid: 5, Lsn: 9000},
		{Kind: api.MsgUpdate, Table: 9, Old: r(7, "a"), New: r(7, "b")},
		{Kind: api.MsgDelete, Table: 9, Old: r(7, "a")},
		{Kind: api.MsgEmpty, Table: 9},
		{Kind: api.MsgCommit, Xid: 5, Lsn: 8900, End: 9000},
	}
}

// TestFormRight: what is a copy, at its edges.
func TestFormRight(t *testing.T) {
	for _, c := range []struct {
		rows int
		l    []api.Message
	}{
		{0, whole()},
		{0, []api.Message{from(1), to(1)}},
		{0, []api.Message{from(top), to(top)}},
		{0, whole(head(nine()))},
		{0, whole(head(nine()), head(eight()))},
		{0, whole(head(eight()), head(nine()))},
		{1, whole(head(nine()), row(9, 1, "a"))},
		{1, whole(head(nine()), row(9, 1, "a"), head(eight()))},
		{1, whole(head(nine()), head(eight()), row(8, "a", nil))},
		{4, copyOfTwo()},
		// Rows in any order; one key in two tables.
		{4, whole(head(nine()), row(9, 3, "a"), row(9, 1, "a"), row(9, -2, "a"), row(9, 2, "a"))},
		{2, whole(head(told(9, "u", "id t")), row(9, "a"), head(told(8, "t", "id i")), row(8, 1))},
		{2, whole(head(told(last, "t", "id i")), row(last, 0), head(told(1, "u", "id t")), row(1, ""))},
		{2, whole(head(nine()), row(9, 0, full), row(9, 1, full))},
	} {
		twoTables(t).imports(c.rows, c.l...)
	}
}

// TestFormWrong: messages that are no copy, each by one thing.
func TestFormWrong(t *testing.T) {
	a, b := head(nine()), head(eight())
	version := nine()
	version.Version = 2
	lists := [][]api.Message{
		{}, {from(9000)}, {to(9000)}, {to(9000), from(9000)}, {from(9000), from(9000)}, {to(9000), to(9000)},
		// The positions of both ends.
		{from(9000), to(9001)}, {from(9000), to(8999)}, {from(9000), to(1)}, {from(9000), a, row(9, 1, "a"), to(9001)},
		// Something ahead of it, behind it, or twice.
		{from(9000), from(9000), to(9000)}, {from(9000), to(9000), to(9000)}, {from(9000), to(9000), from(9000), to(9000)}, {a, from(9000), to(9000)}, {from(9000), to(9000), a}, {a}, {row(9, 1, "a")}, {a, row(9, 1, "a")},
		{from(9000), a, row(9, 1, "a")}, {a, row(9, 1, "a"), to(9000)},
		// Rows behind another table, or none.
		whole(row(9, 1, "a")), whole(row(9, 1, "a"), a), whole(row(8, "x", 1), a), whole(a, row(8, "x", 1)), whole(a, row(8, "x", 1), b), whole(a, b, row(9, 1, "a")), whole(b, a, row(8, "x", 1)), whole(a, row(9, 1, "a"), b, row(9, 2, "a")), whole(a, row(8, 1, "a")), whole(a, row(1, 1, "a")),
		// Two of one number, two of one name.
		whole(a, a), whole(a, row(9, 1, "a"), a), whole(a, b, a), whole(a, b, b), whole(a, head(version)), whole(a, head(told(9, "u", "id t"))), whole(head(eight()), head(told(8, "t", "id i"))), whole(a, head(told(8, "t", "id i"))), whole(a, b, head(told(7, "t", "id i"))), whole(a, b, head(told(7, "u", "id t"))), whole(a, head(told(8, "t", "name t", "id i"))), whole(a, b, head(told(9, "v", "id i"))),
		// Of fewer and of more values.
		whole(a, row(9, 1)), whole(a, row(9, 1, "a", nil)), whole(a, row(9, 1, "a", "b")), whole(a, row(9, 1, "a"), row(9, 2)), whole(head(told(9, "t", "id i")), row(9, 1, nil)), whole(a, row(9, 1, "a", nil, nil, nil, nil, nil, nil)),
		// That do not fit.
		whole(a, row(9, nil, "a")), whole(a, row(9, "a", "a")), whole(a, row(9, true, "a")), whole(a, row(9, 1, 1)), whole(a, row(9, 1, true)), whole(a, row(9, 1, "a"), row(9, 2, 2)), whole(b, row(8, 1, 1)), whole(b, row(8, nil, 1)), whole(b, row(8, "a", "a")), whole(head(told(9, "t", "id i", "name t")), row(9, 1, nil)), whole(a, row(9, "a", 1)),
		// Of one key.
		whole(a, row(9, 1, "a"), row(9, 1, "a")), whole(a, row(9, 1, "a"), row(9, 1, "b")), whole(a, row(9, 1, "a"), row(9, 2, "a"), row(9, 1, "c")), whole(b, row(8, "", 1), row(8, "", 2)), whole(a, row(9, 1, "a"), b, row(8, "x", 1), row(8, "x", 2)), whole(head(withKey(told(9, "t", "name t?", "id i"), 1)), row(9, "a", 1), row(9, "b", 1)),
	}
	for _, m := range others() {
		lists = append(lists, []api.Message{m}, []api.Message{m, to(9000)}, []api.Message{from(9000), m})
		for at := range len(copyOfTwo()) + 1 {
			lists = append(lists, slices.Insert(copyOfTwo(), at, m))
		}
	}
	k := twoTables(t)
	for _, l := range lists {
		k.refuses(api.ErrCopyForm, l...)
	}
	k.imports(4, copyOfTwo()...)
}

// TestFormEachPlace: of a right copy each message left out, doubled, or put elsewhere; what is left is a copy just by the words.
func TestFormEachPlace(t *testing.T) {
	right, wrong := 0, 0
	tries := func(l []api.Message) {
		k := twoTables(t)
		c, is := copyByWords(laid(t, l...))
		if !is {
			k.refuses(api.ErrCopyForm, l...)
			wrong++
			return
		}
		n := 0
		for _, t := range c.tables {
			n += len(t.rows)
		}
		k.imports(n, l...)
		right++
	}
	l := copyOfTwo()
	for i := range l {
		left := slices.Delete(slices.Clone(l), i, i+1)
		tries(left)
		for at := range len(l) + 1 {
			tries(slices.Insert(slices.Clone(l), at, l[i]))
			if at < len(l) {
				tries(slices.Insert(slices.Clone(left), at, l[i]))
			}
		}
	}
	if right < 15 || wrong < 100 {
		t.Errorf("%d were copies, %d were none", right, wrong)
	}
}

// TestFormBytes: bytes that are no message, at each place of a copy, and in the place of each.
func TestFormBytes(t *testing.T) {
	k := twoTables(t)
	l := laid(t, copyOfTwo()...)
	none := []string{"", "junk", "\x00", "\x0a", "\xff", "\x08", "\x09", "\x08\x00", "\x03\x09\x00", strings.Repeat("\x08", 5000)}
	for _, s := range l {
		none = append(none, s[:len(s)-1], s+"\x00", " "+s, s+s)
	}
	for _, s := range none {
		k.refusesBytes(api.ErrCopyForm, s)
		k.refusesBytes(api.ErrCopyForm, s, s)
		for i := range len(l) + 1 {
			k.refusesBytes(api.ErrCopyForm, slices.Insert(slices.Clone(l), i, s)...)
			if i < len(l) {
				changed := slices.Clone(l)
				changed[i] = s
				k.refusesBytes(api.ErrCopyForm, changed...)
			}
		}
	}
	k.imports(4, copyOfTwo()...)
}

// TestFormAnyBytes: messages of which bytes were turned, put in or taken away are a copy just by the words.
func TestFormAnyBytes(t *testing.T) {
	source := rand.New(rand.NewSource(231))
	right := 0
	for range 6000 {
		l := laid(t, copyOfTwo()...)
		for range 1 + source.Intn(2) {
			i := source.Intn(len(l))
			s := []byte(l[i])
			at := source.Intn(len(s))
			switch source.Intn(3) {
			case 0:
				s[at] = byte(source.Intn(256))
			case 1:
				s[at] ^= 1 << source.Intn(8)
			default:
				s = slices.Insert(s, at, byte(source.Intn(4)))
			}
			l[i] = string(s)
		}
		k := twoTables(t)
		_, is := copyByWords(l)
		n, e := copying.Import(k.s, "pub", l)
		if is == (e == api.ErrCopyForm) || e != api.OK && (n != 0 || k.s.Origin("pub") != 0 || k.committed() != twoTables(t).committed()) {
			t.Errorf("Import(%q), a copy %v: %d, %d", l, is, n, e)
		}
		if e == api.OK {
			right++
			k.is("the rows", n, 4)
		}
	}
	if right < 100 {
		t.Errorf("only %d were taken", right)
	}
}

// TestFormFirst: an origin that is no name is told ahead of what is no copy, that ahead of a local table that is not there.
func TestFormFirst(t *testing.T) {
	k := bare(t)
	none := laid(t, whole(row(9, 1, "a"))...)
	k.refusesOf("A", api.ErrArg, none...)
	k.refusesOf("", api.ErrArg)
	k.refusesOf("pub", api.ErrCopyForm, none...)
	k.refuses(api.ErrCopyForm, whole(head(nine()), row(9, 1))...)
	k.refusesOf("pub", api.ErrCopyTable, laid(t, whole(head(nine()), row(9, 1, "a"))...)...)
}

func TestOrigins(t *testing.T) {
	l := laid(t, whole(head(nine()), row(9, 1, "a"))...)
	for _, name := range []string{"a", "z", "pub", "a0", "a9", "a_", "x__", "abcdefghijklmnop", "a123456789012345", "a_______________"} {
		k := newDesk(t)
		n, e := copying.Import(k.s, name, l)
		k.is(fmt.Sprint("Import of ", name), []int{n, int(e), k.s.Origin(name)}, []int{1, 0, 9000})
	}
	k := newDesk(t)
	for _, name := range []string{"", "_", "0", "_a", "9a", "A", "aA", "P", " ", " a", "a ", "a b", "a-", "a.b", "\x00", "a\x00", "a\n", "a`", "a{", "é", "aé", "\xff", "'a'", "abcdefghijklmnopq", "abcdefghijklmnoP", strings.Repeat("a", 17), strings.Repeat("a", 272), strings.Repeat("a", 1<<16)} {
		k.refusesOf(name, api.ErrArg, l...)
	}
}

// byWords is a copy as the chapter's words have it: its tables with their rows.
type byWords struct {
	lsn    int
	tables []tableByWords
}

type tableByWords struct {
	tab  api.Table
	rows []api.Row
}

// copyByWords is the copy that messages are; false: they are none.
func copyByWords(l []string) (byWords, bool) {
	var all []api.Message
	for _, s := range l {
		m, e := publish.Decode(s)
		if e != api.OK {
			return byWords{}, false
		}
		all = append(all, m)
	}
	n := len(all)
	if n < 2 || all[0].Kind != api.MsgCopy || all[n-1].Kind != api.MsgCopied || all[0].Lsn != all[n-1].Lsn {
		return byWords{}, false
	}
	c := byWords{lsn: all[0].Lsn}
	for _, m := range all[1 : n-1] {
		switch at := len(c.tables) - 1; {
		case m.Kind == api.MsgTable:
			c.tables = append(c.tables, tableByWords{tab: m.Tab})
		case m.Kind == api.MsgInsert && at >= 0 && c.tables[at].tab.ID == m.Table:
			c.tables[at].rows = append(c.tables[at].rows, m.New)
		default:
			return byWords{}, false
		}
	}
	for i, a := range c.tables {
		for _, b := range c.tables[:i] {
			if a.tab.ID == b.tab.ID || a.tab.Name == b.tab.Name {
				return byWords{}, false
			}
		}
		for j, row := range a.rows {
			if len(row) != len(a.tab.Columns) {
				return byWords{}, false
			}
			for at, x := range row {
				if c := a.tab.Columns[at]; x.Kind == api.Null && !c.Null || x.Kind != api.Null && x.Kind != c.Kind {
					return byWords{}, false
				}
			}
			for _, other := range a.rows[:j] {
				if other[a.tab.Key] == row[a.tab.Key] {
					return byWords{}, false
				}
			}
		}
	}
	return c, true
}
