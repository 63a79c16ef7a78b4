package record_test

import (
	"math"
	"slices"
	"strings"
	"testing"

	"confluence/api"
	"confluence/record"
)

const (
	last      = 2147483647 // the greatest number of a transaction, a part, a table
	behind    = 2147483648 // the greatest next one
	topOrigin = 819208192
)

var (
	null = api.Value{}
	no   = api.Value{Kind: api.Bool}
	yes  = api.Value{Kind: api.Bool, N: 1}
	full = strings.Repeat("x", 200)
)

func number(n int) api.Value { return api.Value{Kind: api.Int, N: n} }

func text(s string) api.Value { return api.Value{Kind: api.Text, S: s} }

// names are some that may be, at both ends of what a name may have.
var names = []string{"a", "z", "pub", "a0", "a9", "a_", "x__", "abcdefghijklmnop", "a123456789012345", "a_______________"}

// noNames are none, but not empty.
var noNames = []string{"_", "0", "_a", "9a", "A", "aA", "Z", " ", " a", "a ", "a b", "a-", "a.b", "\x00", "a\x00", "a\n", "a`", "a{", "é", "aé", "\xff", "'a'", "abcdefghijklmnopq", "abcdefghijklmnoP", strings.Repeat("a", 32), strings.Repeat("a", 272), strings.Repeat("a", 1<<16)}

// noNumbers are none of a transaction, a part or a table.
var noNumbers = []int{0, -1, -2, -last, math.MinInt, behind, behind + 1, 1 << 32, 1<<32 + 1, math.MaxInt}

// pair is the chapter's row, sevens one of so many values.
func pair() api.Row { return api.Row{number(7), text("a")} }

func sevens(n int) api.Row { return slices.Repeat(api.Row{number(7)}, n) }

// wrongRows are none that a record may have.
func wrongRows() []api.Row {
	l := []api.Row{nil, {}, sevens(9), sevens(10), sevens(255), sevens(256), sevens(257), sevens(1000), {{Kind: 4}}, {{Kind: -1}}, {{Kind: 257}}, {{N: 1}}, {{S: "x"}}, {{Kind: api.Int, S: "x"}}, {{Kind: api.Text, N: 1}}, {{Kind: api.Bool, N: 2}}, {{Kind: api.Bool, N: -1}}, {{Kind: api.Bool, S: "x"}}, {text(full + "x")}}
	for i := range 8 {
		r := sevens(8)
		r[i] = api.Value{Kind: 4}
		s := sevens(8)
		s[i] = text(full + "x")
		l = append(l, r, s)
	}
	return l
}

// thing and other are right tables; columns are so many right ones, the first of them a key.
func thing() api.Table {
	return api.Table{ID: 1, Version: 1, Name: "t", Columns: []api.Column{{Name: "id", Kind: api.Int}, {Name: "name", Kind: api.Text, Null: true}}}
}

func other() api.Table {
	return api.Table{ID: 4, Version: 300, Name: "u_2", Columns: []api.Column{{Name: "x", Kind: api.Bool}, {Name: "k", Kind: api.Text}}, Key: 1}
}

func columns(n int) []api.Column {
	var l []api.Column
	for i := range n {
		l = append(l, api.Column{Name: "c" + string(rune('a'+i)), Kind: 1 + i%3, Null: i%2 == 1})
	}
	return l
}

// changed is the thing with something about it changed.
func changed(how func(*api.Table)) api.Table {
	t := thing()
	how(&t)
	return t
}

// rightTables are at the edges of what a table may be.
func rightTables() []api.Table {
	return []api.Table{
		thing(), other(),
		changed(func(t *api.Table) { t.ID = last }),
		changed(func(t *api.Table) { t.ID, t.Version = 128, 127 }),
		changed(func(t *api.Table) { t.Version = last }),
		changed(func(t *api.Table) { t.Name = "a_______________" }),
		changed(func(t *api.Table) { t.Columns = columns(1) }),
		changed(func(t *api.Table) { t.Columns = columns(8) }),
		changed(func(t *api.Table) { t.Columns, t.Key = columns(8), 6 }), // an Int that may not be null
		changed(func(t *api.Table) { t.Columns, t.Key = append(columns(7), api.Column{Name: "key", Kind: api.Text}), 7 }),
	}
}

// wrongTables have each one thing wrong; the zero table has all.
func wrongTables() []api.Table {
	l := []api.Table{
		{},
		changed(func(t *api.Table) { t.Columns = nil }),
		changed(func(t *api.Table) { t.Columns = []api.Column{} }),
		changed(func(t *api.Table) { t.Columns = columns(9) }),
		changed(func(t *api.Table) { t.Columns[0].Kind = api.Bool }),
		changed(func(t *api.Table) { t.Columns[0].Null = true }),
		changed(func(t *api.Table) { t.Columns[1].Name = "id" }),
		changed(func(t *api.Table) { t.Key = 1 }),
		changed(func(t *api.Table) { t.Key = 2 }),
		changed(func(t *api.Table) { t.Key = 255 }),
		changed(func(t *api.Table) { t.Key = 256 }),
		changed(func(t *api.Table) { t.Key = -1 }),
		changed(func(t *api.Table) { t.Key = math.MinInt }),
		changed(func(t *api.Table) { t.Key = math.MaxInt }),
	}
	for _, n := range noNumbers {
		l = append(l, changed(func(t *api.Table) { t.ID = n }), changed(func(t *api.Table) { t.Version = n }))
	}
	for _, s := range append([]string{""}, noNames...) {
		l = append(l, changed(func(t *api.Table) { t.Name = s }), changed(func(t *api.Table) { t.Columns[0].Name = s }), changed(func(t *api.Table) { t.Columns[1].Name = s }))
	}
	for _, k := range []int{api.Null, 4, 5, 255, 256, 257, -1, math.MinInt, math.MaxInt} {
		l = append(l, changed(func(t *api.Table) { t.Columns[0].Kind = k }), changed(func(t *api.Table) { t.Columns[1].Kind = k }))
	}
	return l
}

// tablesUpTo are right tables with the numbers 1 to n.
func tablesUpTo(n int) []api.Table {
	var l []api.Table
	for i := 1; i <= n; i++ {
		t := thing()
		t.ID, t.Name = i, "t"+string(rune('a'+i-1))
		l = append(l, t)
	}
	return l
}

// sample is a record, its bytes and its words, written down by hand.
type sample struct {
	r    api.Rec
	s, p string
}

// samples are new memory at each call, one or more of each kind.
func samples() []sample {
	const row = "\x06\x02\x01\x0e\x02\x01a"
	const t1, p1 = "\x01\x01\x01t\x02\x02id\x01\x00\x04name\x02\x01\x00", "t 1.1 (id int, name text null) key id"
	const t4, p4 = "\x04\xac\x02\x03u_2\x02\x01x\x03\x00\x01k\x02\x00\x01", "u_2 4.300 (x bool, k text) key k"
	return []sample{
		{api.Rec{Kind: 1, Xid: 300}, "\x01\xac\x02", "begin 300"},
		{api.Rec{Kind: 1, Xid: 127}, "\x01\x7f", "begin 127"},
		{api.Rec{Kind: 2, Xid: 5, Parent: 3}, "\x02\x05\x03", "part 5 of 3"},
		{api.Rec{Kind: 2, Xid: last, Parent: last - 1}, "\x02\xff\xff\xff\xff\x07\xfe\xff\xff\xff\x07", "part 2147483647 of 2147483646"},
		{api.Rec{Kind: 3, Xid: 1, Table: 2, New: pair()}, "\x03\x01\x02" + row, "insert 1 table 2 (7, 'a')"},
		{api.Rec{Kind: 3, Xid: 1, Table: 2, New: api.Row{no, yes, null, number(-1), text("")}}, "\x03\x01\x02\x08\x05\x03\x04\x00\x01\x01\x02\x00", "insert 1 table 2 (false, true, null, -1, '')"},
		{api.Rec{Kind: 4, Xid: 1, Table: 2, Old: api.Row{number(7)}, New: pair()}, "\x04\x01\x02\x03\x01\x01\x0e" + row, "update 1 table 2 (7) to (7, 'a')"},
		{api.Rec{Kind: 5, Xid: 128, Table: 129, Old: api.Row{null}}, "\x05\x80\x01\x81\x01\x02\x01\x00", "delete 128 table 129 (null)"},
		{api.Rec{Kind: 6, Xid: last}, "\x06\xff\xff\xff\xff\x07", "release 2147483647"},
		{api.Rec{Kind: 7, Xid: 9}, "\x07\x09", "back 9"},
		{api.Rec{Kind: 8, Xid: 1}, "\x08\x01\x00\x00", "commit 1"},
		{api.Rec{Kind: 8, Xid: 1, Name: "pub", Origin: 8192}, "\x08\x01\x03pub\x80\x40", "commit 1 from pub at 8192"},
		{api.Rec{Kind: 8, Xid: 2, Name: "a", Origin: 1}, "\x08\x02\x01a\x01", "commit 2 from a at 1"},
		{api.Rec{Kind: 9, Xid: 2}, "\x09\x02", "abort 2"},
		{api.Rec{Kind: 10, Xid: 2, Name: "w"}, "\x0a\x02\x01w", "prepare 2 as w"},
		{api.Rec{Kind: 11, Xid: 9, Tab: thing()}, "\x0b\x09" + t1, "create 9 " + p1},
		{api.Rec{Kind: 12, Xid: 9, Table: 1}, "\x0c\x09\x01", "drop 9 table 1"},
		{api.Rec{Kind: 13, Xid: 9, Tab: other()}, "\x0d\x09" + t4, "widen 9 " + p4},
		{api.Rec{Kind: 14, Xid: 9, Table: 128}, "\x0e\x09\x80\x01", "empty 9 table 128"},
		{api.Rec{Kind: 15, Xid: behind, Table: 1}, "\x0f\x80\x80\x80\x80\x08\x01\x00", "checkpoint next 2147483648 table 1"},
		{api.Rec{Kind: 15, Xid: 1, Table: 5, Tabs: []api.Table{thing(), other()}}, "\x0f\x01\x05\x02" + t1 + t4, "checkpoint next 1 table 5 " + p1 + " " + p4},
	}
}

// sampleOf is the first record of a kind among them.
func sampleOf(kind int) api.Rec {
	l := samples()
	return l[slices.IndexFunc(l, func(c sample) bool { return c.r.Kind == kind })].r
}

// with is the first sample of a kind with something about it changed.
func with(kind int, how func(*api.Rec)) api.Rec {
	r := sampleOf(kind)
	how(&r)
	return r
}

// kindsWith are the kinds of which a field is one: see the chapter's table.
var kindsWith = map[string][]int{
	"Xid":    {1, 2, 3, 4, 5, 6, 7, 8, 9, 10, 11, 12, 13, 14, 15},
	"Parent": {2},
	"Table":  {3, 4, 5, 12, 14, 15},
	"Old":    {4, 5},
	"New":    {3, 4},
	"Name":   {8, 10},
	"Origin": {8},
	"Tab":    {11, 13},
	"Tabs":   {15},
}

// equal tells whether two records are the same; of lists only what is within matters.
func equal(a, b api.Rec) bool {
	return a.Kind == b.Kind && a.Xid == b.Xid && a.Parent == b.Parent && a.Table == b.Table && a.Name == b.Name && a.Origin == b.Origin &&
		slices.Equal(a.Old, b.Old) && slices.Equal(a.New, b.New) && equalTable(a.Tab, b.Tab) && slices.EqualFunc(a.Tabs, b.Tabs, equalTable)
}

func equalTable(a, b api.Table) bool {
	return a.ID == b.ID && a.Version == b.Version && a.Name == b.Name && a.Key == b.Key && slices.Equal(a.Columns, b.Columns)
}

// taken holds that a record is taken by all three calls, as the rules say.
func taken(t *testing.T, what string, r api.Rec) {
	t.Helper()
	s, e := record.Encode(r)
	if want := laidByRule(r, -1); s != want || e != api.OK || len(s) > 4000 {
		t.Errorf("%s: Encode(%+v) = %x, %d, want %x", what, r, s, e, want)
	}
	if p, want := record.Print(r), printedByRule(r); p != want {
		t.Errorf("%s: Print(%+v) = %s, want %s", what, r, p, want)
	}
	if back, e := record.Decode(s); !equal(back, r) || e != api.OK {
		t.Errorf("%s: Decode(%x) = %+v, %d, want %+v", what, s, back, e, r)
	}
}

// refused holds that a record is not taken, and not told in words.
func refused(t *testing.T, what string, r api.Rec, want api.Errno) {
	t.Helper()
	if s, e := record.Encode(r); s != "" || e != want {
		t.Errorf("%s: Encode(%+v) = %x, %d, want %d", what, r, s, e, want)
	}
	if p := record.Print(r); p != "?" {
		t.Errorf("%s: Print(%+v) = %s", what, r, p)
	}
}

// wrongField holds that a record of a kind is refused for a field, and so are the bytes that would have been its own.
func wrongField(t *testing.T, what string, r api.Rec) {
	t.Helper()
	refused(t, what, r, api.ErrRecordField)
	if canBeLaid(r) {
		noRecord(t, what, laidByRule(r, -1))
	}
}

func noRecord(t *testing.T, what, s string) {
	t.Helper()
	if r, e := record.Decode(s); !equal(r, api.Rec{}) || e != api.ErrRecordForm {
		t.Errorf("%s: Decode(%x) = %+v, %d", what, s[:min(len(s), 300)], r, e)
	}
}
