package copying_test

import (
	"fmt"
	"slices"
	"strings"
	"testing"

	"confluence/api"
	"confluence/copying"
	"confluence/files"
	"confluence/publish"
	"confluence/record"
	"confluence/store"
	"confluence/value"
)

const (
	room = 10000000   // bytes of a disk that has enough
	last = 2147483647 // the greatest number of a transaction, a table
	top  = 819208192  // the greatest position
)

var (
	yes  = api.Value{Kind: api.Bool, N: 1}
	full = strings.Repeat("x", 200)
)

// v is a value by what Go has for it.
func v(x any) api.Value {
	switch x := x.(type) {
	case api.Value:
		return x
	case int:
		return api.Value{Kind: api.Int, N: x}
	case string:
		return api.Value{Kind: api.Text, S: x}
	case bool:
		if x {
			return yes
		}
		return api.Value{Kind: api.Bool}
	}
	return api.Value{}
}

// r is a row of values.
func r(l ...any) api.Row {
	out := make(api.Row, len(l))
	for i, x := range l {
		out[i] = v(x)
	}
	return out
}

func rowText(r api.Row) string {
	l := make([]string, len(r))
	for i, x := range r {
		l[i] = value.Print(x)
	}
	return "(" + strings.Join(l, ", ") + ")"
}

// columns are some by their names: the kind behind it (i, t, b), and a ? where it may be null.
func columns(l ...string) []api.Column {
	var out []api.Column
	for _, s := range l {
		name, rest, _ := strings.Cut(s, " ")
		out = append(out, api.Column{Name: name, Kind: 1 + strings.Index("itb", rest[:1]), Null: strings.HasSuffix(rest, "?")})
	}
	return out
}

// told is a table as it is told, whose key is its first column; with is one with the key elsewhere.
func told(id int, name string, l ...string) api.Table {
	return api.Table{ID: id, Version: 1, Name: name, Columns: columns(l...)}
}

func withKey(t api.Table, key int) api.Table {
	t.Key = key
	return t
}

// nine is a table as it is told, of the number 9.
func nine() api.Table { return told(9, "t", "id i", "name t?") }

// The messages of a copy.
func from(lsn int) api.Message { return api.Message{Kind: api.MsgCopy, Lsn: lsn} }

func to(lsn int) api.Message { return api.Message{Kind: api.MsgCopied, Lsn: lsn} }

func head(t api.Table) api.Message { return api.Message{Kind: api.MsgTable, Tab: t} }

func row(table int, l ...any) api.Message {
	return api.Message{Kind: api.MsgInsert, Table: table, New: r(l...)}
}

// whole is a copy of these messages, up to 9000.
func whole(l ...api.Message) []api.Message {
	return slices.Concat([]api.Message{from(9000)}, l, []api.Message{to(9000)})
}

// laid are messages as bytes.
func laid(t *testing.T, l ...api.Message) []string {
	t.Helper()
	var out []string
	for _, m := range l {
		s, e := publish.Encode(m)
		if e != api.OK {
			t.Fatalf("Encode(%+v): %d", m, e)
		}
		out = append(out, s)
	}
	return out
}

// words are messages in words; a copy's positions are its lsn.
func words(l []string, lsn int) string {
	var out []string
	for _, s := range l {
		m, e := publish.Decode(s)
		switch {
		case e != api.OK:
			out = append(out, fmt.Sprintf("none %x", s))
		case m.Kind == api.MsgCopy && m.Lsn == lsn:
			out = append(out, "from")
		case m.Kind == api.MsgCopied && m.Lsn == lsn:
			out = append(out, "to")
		case m.Kind == api.MsgTable:
			out = append(out, tableText(m.Tab))
		case m.Kind == api.MsgInsert:
			out = append(out, fmt.Sprint(m.Table, rowText(m.New)))
		default:
			out = append(out, fmt.Sprintf("%+v", m))
		}
	}
	return strings.Join(out, " ")
}

// tableText is a table by its name, number, version and columns; the key has a * behind it.
func tableText(t api.Table) string {
	var l []string
	for i, c := range t.Columns {
		s := c.Name
		if i == t.Key {
			s += "*"
		}
		l = append(l, s)
	}
	return fmt.Sprintf("%s.%d.%d(%s)", t.Name, t.ID, t.Version, strings.Join(l, ", "))
}

// pub is a publication of these tables; all is one of whole tables.
func pub(l ...api.Published) api.Publication { return api.Publication{Name: "p", Tables: l} }

func all(names ...string) api.Publication {
	p := pub()
	for _, name := range names {
		p.Tables = append(p.Tables, api.Published{Table: name, Kinds: 15})
	}
	return p
}

// some is one of some columns of a table, if the filter is empty or fits.
func some(table, filter string, columns ...string) api.Published {
	return api.Published{Table: table, Kinds: 15, Columns: columns, Filter: filter}
}

// desk is a store with its disk.
type desk struct {
	t *testing.T
	d *files.Disk
	s *store.Store
}

// formatted is a disk with a store without anything.
func formatted(t *testing.T, capacity int) *files.Disk {
	t.Helper()
	d, e := files.New(capacity)
	if e != api.OK {
		t.Fatalf("files.New: %d", e)
	}
	if e := store.Format(d); e != api.OK {
		t.Fatalf("Format: %d", e)
	}
	return d
}

func on(t *testing.T, d *files.Disk) *desk {
	t.Helper()
	s, e := store.Open(d)
	if e != api.OK {
		t.Fatalf("Open: %d", e)
	}
	return &desk{t, d, s}
}

// bare is a store without tables; newDesk is one with the table t, and with these rows of it.
func bare(t *testing.T) *desk {
	t.Helper()
	return on(t, formatted(t, room))
}

func newDesk(t *testing.T, rows ...api.Row) *desk {
	t.Helper()
	k := bare(t)
	k.create("t", 0, "id i", "name t?")
	if len(rows) > 0 {
		k.put("t", rows...)
	}
	return k
}

func (k *desk) create(name string, key int, l ...string) {
	k.t.Helper()
	_, e := k.s.CreateTable(name, columns(l...), key)
	k.ok(e)
}

func (k *desk) ok(l ...api.Errno) {
	k.t.Helper()
	for i, e := range l {
		if e != api.OK {
			k.t.Fatalf("call %d: %d", i, e)
		}
	}
}

func (k *desk) is(what string, got, want any) {
	k.t.Helper()
	if fmt.Sprint(got) != fmt.Sprint(want) {
		k.t.Errorf("%s: %v, want %v", what, got, want)
	}
}

// crash loses what does not last, and opens the store anew; crashKeeping loses so much of it.
func (k *desk) crash() {
	k.t.Helper()
	k.crashKeeping(0)
}

func (k *desk) crashKeeping(tenths int) {
	k.t.Helper()
	k.ok(k.d.Crash(pending(k.d, tenths)))
	*k = *on(k.t, k.d)
}

// pending keeps of each file so many tenths of what does not last.
func pending(d *files.Disk, tenths int) []api.Keep {
	var l []api.Keep
	for _, name := range d.List() {
		l = append(l, api.Keep{Name: name, Bytes: d.Pending(name) * tenths / 10})
	}
	return l
}

func (k *desk) begins() int {
	k.t.Helper()
	x, e := k.s.Begin()
	k.ok(e)
	return x
}

// writes is an open transaction that has put rows into a table; put commits it.
func (k *desk) writes(table string, l ...api.Row) int {
	k.t.Helper()
	x := k.begins()
	for _, row := range l {
		k.ok(k.s.Insert(x, table, row))
	}
	return x
}

func (k *desk) put(table string, l ...api.Row) {
	k.t.Helper()
	_, e := k.s.Commit(k.writes(table, l...))
	k.ok(e)
}

// rows are those of a table that are committed.
func (k *desk) rows(table string) string {
	var l []string
	for row := range k.s.Scan(0, table) {
		l = append(l, rowText(row))
	}
	return strings.Join(l, " ")
}

func (k *desk) has(table, want string) {
	k.t.Helper()
	k.is("the rows of "+table, k.rows(table), want)
}

// committed is all that is committed, by tables with their rows.
func (k *desk) committed() string {
	out := ""
	for _, t := range k.s.Tables() {
		out += fmt.Sprint(t, k.rows(t.Name), "; ")
	}
	return out
}

// state is all that can be asked of a store, and the disk's bytes.
func (k *desk) state() string {
	log := k.s.Log()
	return fmt.Sprint(k.committed(), k.s.Active(), k.s.Prepared(), k.s.Based(), log.First(), log.Flushed(), log.End(), k.s.Doubt(), bytesOf(k.d))
}

// bytesOf has of a disk, dead or not, what lasts and how much does not; of a living one also what does not.
func bytesOf(d *files.Disk) string {
	out := fmt.Sprint(d.Dead(), d.Files())
	for _, name := range d.List() {
		n, _ := d.Size(name)
		s, _ := d.Read(name, 0, n)
		out += fmt.Sprint(name, d.Pending(name), s, ";")
	}
	return out
}

// acting tells how many acts something has done, of a disk that lives then.
func (k *desk) acting(do func()) int {
	k.t.Helper()
	const many = 100000
	k.ok(k.d.Arm(many))
	do()
	left := 0
	for ; !k.d.Dead(); left++ {
		k.d.Sync("base")
	}
	return many - left
}

// exports holds a copy in words. Nothing is changed by it, and a second one is the same.
func (k *desk) exports(p api.Publication, want string) []string {
	k.t.Helper()
	before := k.state()
	l, lsn, e := copying.Export(k.s, p)
	if e != api.OK || lsn != k.s.Log().Flushed() {
		k.t.Errorf("Export(%+v): %d, %d, want %d, 0", p, lsn, e, k.s.Log().Flushed())
	}
	k.is(fmt.Sprintf("what Export(%+v) tells", p), words(l, lsn), want)
	again, _, _ := copying.Export(k.s, p)
	if !slices.Equal(l, again) {
		k.t.Errorf("Export(%+v): %q, and then %q", p, l, again)
	}
	if after := k.state(); after != before {
		k.t.Errorf("Export(%+v) has changed something: %s, was %s", p, after, before)
	}
	return l
}

// exportsNot holds an error, with nothing beside it.
func (k *desk) exportsNot(p api.Publication, want api.Errno) {
	k.t.Helper()
	before := k.state()
	if l, lsn, e := copying.Export(k.s, p); len(l) > 0 || lsn != 0 || e != want {
		k.t.Errorf("Export(%+v): %q, %d, %d, want %d", p, l, lsn, e, want)
	}
	if after := k.state(); after != before {
		k.t.Errorf("Export(%+v) has changed something: %s, was %s", p, after, before)
	}
}

// imports holds that a copy is taken, of the origin pub, and how many rows it has.
func (k *desk) imports(want int, l ...api.Message) {
	k.t.Helper()
	s := laid(k.t, l...)
	n, e := copying.Import(k.s, "pub", s)
	if n != want || e != api.OK {
		k.t.Errorf("Import(%+v): %d, %d, want %d, 0", l, n, e, want)
	}
	k.is("the origin", k.s.Origin("pub"), l[len(l)-1].Lsn)
}

// refuses holds that messages are refused ahead of a transaction: nothing at all is changed.
func (k *desk) refuses(want api.Errno, l ...api.Message) {
	k.t.Helper()
	k.refusesBytes(want, laid(k.t, l...)...)
}

func (k *desk) refusesBytes(want api.Errno, l ...string) {
	k.t.Helper()
	k.refusesOf("pub", want, l...)
}

func (k *desk) refusesOf(origin string, want api.Errno, l ...string) {
	k.t.Helper()
	before := fmt.Sprint(k.state(), k.s.Origin("pub"), k.s.Origin(origin))
	if n, e := copying.Import(k.s, origin, l); n != 0 || e != want {
		k.t.Errorf("Import(%.20q, %s): %d, %d, want %d", origin, words(l, 9000), n, e, want)
	}
	if after := fmt.Sprint(k.state(), k.s.Origin("pub"), k.s.Origin(origin)); after != before {
		k.t.Errorf("Import(%.20q, %s) has changed something: %s, was %s", origin, words(l, 9000), after, before)
	}
}

// fails holds that messages are refused within a transaction, which is aborted: of all that it did nothing stays but what is logged.
func (k *desk) fails(want api.Errno, logged string, l ...api.Message) {
	k.t.Helper()
	all := func() string {
		return fmt.Sprint(k.committed(), k.s.Active(), k.s.Prepared(), k.s.Origin("pub"), k.s.Log().Flushed())
	}
	before, end := all(), k.s.Log().End()
	if n, e := copying.Import(k.s, "pub", laid(k.t, l...)); n != 0 || e != want {
		k.t.Errorf("Import(%+v): %d, %d, want %d", l, n, e, want)
	}
	if after := all(); after != before {
		k.t.Errorf("Import(%+v) has changed something: %s, was %s", l, after, before)
	}
	k.is("what is logged", strings.Join(k.logged(end), "; "), logged)
}

// logged are in words the records of the log from a place on, also those that do not last yet.
func (k *desk) logged(from int) []string {
	k.t.Helper()
	var out []string
	for at := from; ; {
		payload, next, e := k.s.Log().Read(at)
		if e == api.ErrWalEnd {
			return out
		}
		x, wrong := record.Decode(payload)
		k.ok(e, wrong)
		out = append(out, record.Print(x))
		at = next
	}
}

// logs holds in words what a copy logs that is taken.
func (k *desk) logs(logged string, rows int, l ...api.Message) {
	k.t.Helper()
	end := k.s.Log().End()
	k.imports(rows, l...)
	k.is("what is logged", strings.Join(k.logged(end), "; "), logged)
	k.is("what lasts", k.s.Log().Flushed(), k.s.Log().End())
	k.is("who is open", k.s.Active(), []int{})
}
