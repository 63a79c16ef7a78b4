package publish_test

import (
	"math"
	"slices"
	"strings"
	"testing"

	"confluence/api"
	"confluence/publish"
)

const (
	last = 2147483647 // the greatest number of a transaction, a table
	top  = 819208192  // the greatest position
)

var (
	null = api.Value{}
	no   = api.Value{Kind: api.Bool}
	yes  = api.Value{Kind: api.Bool, N: 1}
	full = strings.Repeat("x", 200)
)

func number(n int) api.Value { return api.Value{Kind: api.Int, N: n} }

func text(s string) api.Value { return api.Value{Kind: api.Text, S: s} }

// names are some that may be, at both ends of what a name may have.
var names = []string{"a", "z", "pub", "a0", "a9", "a_", "x__", "abcdefghijklmnop", "a123456789012345", "a_______________"}

// noNames are none.
var noNames = []string{"", "_", "0", "_a", "9a", "A", "aA", "Z", " ", " a", "a ", "a b", "a-", "a.b", "\x00", "a\x00", "a\n", "a`", "a{", "é", "aé", "\xff", "'a'", "abcdefghijklmnopq", "abcdefghijklmnoP", strings.Repeat("a", 32), strings.Repeat("a", 272), strings.Repeat("a", 1<<16)}

// noNumbers are none of a transaction or a table, noPositions no places of a log.
var (
	noNumbers   = []int{0, -1, -2, -last, math.MinInt, last + 1, last + 2, 1 << 32, 1<<32 + 1, math.MaxInt}
	noPositions = []int{0, -1, -8192, -top, math.MinInt, top + 1, top + 8192, last, 1 << 32, 1<<32 + 1, math.MaxInt}
)

func sevens(n int) api.Row { return slices.Repeat(api.Row{number(7)}, n) }

// rightRows are at the edges of what a row of a message may be.
func rightRows() []api.Row {
	return []api.Row{{null}, {no}, {yes}, {number(0)}, {number(math.MinInt)}, {number(math.MaxInt)}, {text("")}, {text("\x00\xff")}, {text(full)}, sevens(1), sevens(8), slices.Repeat(api.Row{text(full)}, 8), slices.Repeat(api.Row{null}, 8)}
}

// wrongRows are none that a message may have.
func wrongRows() []api.Row {
	l := []api.Row{nil, {}, sevens(9), sevens(10), sevens(255), sevens(256), sevens(257), sevens(1000), {{Kind: 4}}, {{Kind: -1}}, {{Kind: 257}}, {{N: 1}}, {{S: "x"}}, {{Kind: api.Int, S: "x"}}, {{Kind: api.Text, N: 1}}, {{Kind: api.Bool, N: 2}}, {{Kind: api.Bool, N: -1}}, {{Kind: api.Bool, S: "x"}}, {text(full + "x")}}
	for i := range 8 {
		r := sevens(8)
		r[i] = api.Value{Kind: 4}
		s := sevens(8)
		s[i] = text(full + "x")
		l = append(l, r, s)
	}
	return l
}

// thing is the chapter's table; columns are so many right ones, the first of them a key.
func thing() api.Table {
	return api.Table{ID: 4, Version: 2, Name: "t", Columns: []api.Column{{Name: "id", Kind: api.Int}, {Name: "name", Kind: api.Text, Null: true}, {Name: "flag", Kind: api.Bool, Null: true}}}
}

func columns(n int) []api.Column {
	var l []api.Column
	for i := range n {
		l = append(l, api.Column{Name: "c" + string(rune('a'+i)), Kind: 1 + i%3, Null: i%2 == 1})
	}
	return l
}

// changed is the thing with something about it changed.
func changed(how func(*api.Table)) api.Table {
	t := thing()
	how(&t)
	return t
}

// rightTables are at the edges of what a table may be.
func rightTables() []api.Table {
	l := []api.Table{
		thing(),
		changed(func(t *api.Table) { t.ID = 1 }),
		changed(func(t *api.Table) { t.ID = last }),
		changed(func(t *api.Table) { t.ID, t.Version = 128, 127 }),
		changed(func(t *api.Table) { t.Version = 1 }),
		changed(func(t *api.Table) { t.Version = last }),
		changed(func(t *api.Table) { t.Columns[0].Kind = api.Text }),
		changed(func(t *api.Table) { t.Columns = columns(1) }),
		changed(func(t *api.Table) { t.Columns = columns(8) }),
		changed(func(t *api.Table) { t.Columns, t.Key = columns(8), 6 }), // an Int that may not be null
		changed(func(t *api.Table) { t.Columns, t.Key = append(columns(7), api.Column{Name: "key", Kind: api.Text}), 7 }),
	}
	for _, s := range names {
		l = append(l, changed(func(t *api.Table) { t.Name = s }), changed(func(t *api.Table) { t.Columns[0].Name = s }), changed(func(t *api.Table) { t.Columns[2].Name = s }))
	}
	return l
}

// wrongTables have each one thing wrong; the zero table has all.
func wrongTables() []api.Table {
	l := []api.Table{
		{},
		changed(func(t *api.Table) { t.Columns = nil }),
		changed(func(t *api.Table) { t.Columns = []api.Column{} }),
		changed(func(t *api.Table) { t.Columns = columns(9) }),
		changed(func(t *api.Table) { t.Columns = columns(20) }),
		changed(func(t *api.Table) { t.Columns[0].Kind = api.Bool }),
		changed(func(t *api.Table) { t.Columns[0].Null = true }),
		changed(func(t *api.Table) { t.Columns[1].Name = "id" }),
		changed(func(t *api.Table) { t.Columns[2].Name = "name" }),
	}
	for _, n := range []int{1, 2, 3, 255, 256, -1, math.MinInt, math.MaxInt} {
		l = append(l, changed(func(t *api.Table) { t.Key = n }))
	}
	for _, n := range noNumbers {
		l = append(l, changed(func(t *api.Table) { t.ID = n }), changed(func(t *api.Table) { t.Version = n }))
	}
	for _, s := range noNames {
		l = append(l, changed(func(t *api.Table) { t.Name = s }), changed(func(t *api.Table) { t.Columns[0].Name = s }), changed(func(t *api.Table) { t.Columns[1].Name = s }))
	}
	for _, k := range []int{api.Null, 4, 5, 255, 256, 257, -1, math.MinInt, math.MaxInt} {
		l = append(l, changed(func(t *api.Table) { t.Columns[0].Kind = k }), changed(func(t *api.Table) { t.Columns[1].Kind = k }))
	}
	return l
}

// row is one of the thing.
func row(id int, name string) api.Row { return api.Row{number(id), text(name), null} }

// pub is a publication of these tables; only is one of the thing alone.
func pub(l ...api.Published) api.Publication { return api.Publication{Name: "p", Tables: l} }

func only(kinds int, filter string, columns ...string) api.Publication {
	return pub(api.Published{Table: "t", Kinds: kinds, Columns: columns, Filter: filter})
}

func equalTable(a, b api.Table) bool {
	return a.ID == b.ID && a.Version == b.Version && a.Name == b.Name && a.Key == b.Key && slices.Equal(a.Columns, b.Columns)
}

// equal tells whether two messages are the same; of lists only what is within matters.
func equal(a, b api.Message) bool {
	return a.Kind == b.Kind && a.Xid == b.Xid && a.Lsn == b.Lsn && a.End == b.End && a.Table == b.Table &&
		equalTable(a.Tab, b.Tab) && slices.Equal(a.Old, b.Old) && slices.Equal(a.New, b.New)
}

func equalPublished(a, b api.Published) bool {
	return a.Table == b.Table && a.Kinds == b.Kinds && slices.Equal(a.Columns, b.Columns) && a.Filter == b.Filter
}

func equalPublication(a, b api.Publication) bool {
	return a.Name == b.Name && slices.EqualFunc(a.Tables, b.Tables, equalPublished)
}

// read are messages out of their bytes.
func read(t *testing.T, l []string) []api.Message {
	t.Helper()
	var out []api.Message
	for _, s := range l {
		m, e := publish.Decode(s)
		if e != api.OK {
			t.Fatalf("Decode(%x) of what was told: %d", s, e)
		}
		out = append(out, m)
	}
	return out
}

// bench is a publisher that is held against what is wanted, call by call.
type bench struct {
	t *testing.T
	p *publish.Publisher
}

func made(t *testing.T, p api.Publication) *bench {
	t.Helper()
	x, e := publish.New(p)
	if x == nil || e != api.OK {
		t.Fatalf("New(%+v): %d", p, e)
	}
	return &bench{t, x}
}

func (x *bench) begins(xid, lsn int, want api.Errno) {
	x.t.Helper()
	if e := x.p.Begin(xid, lsn); e != want {
		x.t.Errorf("Begin(%d, %d): %d, want %d", xid, lsn, e, want)
	}
}

// begin begins the transaction 5, whose commit stands at 9000.
func (x *bench) begin() {
	x.t.Helper()
	x.begins(5, 9000, api.OK)
}

// tells holds which messages a change makes.
func (x *bench) tells(what string, t api.Table, c api.Change, want ...api.Message) {
	x.t.Helper()
	l, e := x.p.Change(t, c)
	if got := read(x.t, l); e != api.OK || !slices.EqualFunc(got, want, equal) {
		x.t.Errorf("%s: Change(%+v, %+v): %+v, %d, want %+v", what, t, c, got, e, want)
	}
}

// refuses holds that a change is refused so.
func (x *bench) refuses(what string, t api.Table, c api.Change, want api.Errno) {
	x.t.Helper()
	if l, e := x.p.Change(t, c); len(l) > 0 || e != want {
		x.t.Errorf("%s: Change(%+v, %+v): %q, %d, want %d", what, t, c, l, e, want)
	}
}

func (x *bench) commits(end int, want ...api.Message) {
	x.t.Helper()
	l, e := x.p.Commit(end)
	if got := read(x.t, l); e != api.OK || !slices.EqualFunc(got, want, equal) {
		x.t.Errorf("Commit(%d): %+v, %d, want %+v", end, got, e, want)
	}
}

func (x *bench) stays(end int, want api.Errno) {
	x.t.Helper()
	if l, e := x.p.Commit(end); len(l) > 0 || e != want {
		x.t.Errorf("Commit(%d): %q, %d, want %d", end, l, e, want)
	}
}

// The changes of the thing, and the messages that tell them.
func inserted(r api.Row) api.Change { return api.Change{Kind: api.RecInsert, Table: 4, New: r} }

func updated(from, to api.Row) api.Change {
	return api.Change{Kind: api.RecUpdate, Table: 4, Old: from, New: to}
}

func deleted(r api.Row) api.Change { return api.Change{Kind: api.RecDelete, Table: 4, Old: r} }

func emptied() api.Change { return api.Change{Kind: api.RecEmpty, Table: 4} }

func msgBegin() api.Message { return api.Message{Kind: api.MsgBegin, Xid: 5, Lsn: 9000} }

func msgCommit(end int) api.Message {
	return api.Message{Kind: api.MsgCommit, Xid: 5, Lsn: 9000, End: end}
}

func msgTable(t api.Table) api.Message { return api.Message{Kind: api.MsgTable, Tab: t} }

func msgInsert(r api.Row) api.Message { return api.Message{Kind: api.MsgInsert, Table: 4, New: r} }

func msgUpdate(from, to api.Row) api.Message {
	return api.Message{Kind: api.MsgUpdate, Table: 4, Old: from, New: to}
}

func msgDelete(r api.Row) api.Message { return api.Message{Kind: api.MsgDelete, Table: 4, Old: r} }

func msgEmpty() api.Message { return api.Message{Kind: api.MsgEmpty, Table: 4} }
