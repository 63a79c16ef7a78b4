package apply_test

import (
	"fmt"
	"slices"
	"strings"
	"testing"

	"confluence/api"
	"confluence/apply"
	"confluence/files"
	"confluence/publish"
	"confluence/record"
	"confluence/store"
	"confluence/value"
)

const (
	room = 10000000   // bytes of a disk that has enough
	last = 2147483647 // the greatest number of a transaction, a table
	top  = 819208192  // the greatest position
)

var (
	null = api.Value{}
	yes  = api.Value{Kind: api.Bool, N: 1}
	full = strings.Repeat("x", 200)
)

// v is a value by what Go has for it.
func v(x any) api.Value {
	switch x := x.(type) {
	case int:
		return api.Value{Kind: api.Int, N: x}
	case string:
		return api.Value{Kind: api.Text, S: x}
	case bool:
		if x {
			return yes
		}
		return api.Value{Kind: api.Bool}
	}
	return null
}

// r is a row of values.
func r(l ...any) api.Row {
	out := make(api.Row, len(l))
	for i, x := range l {
		out[i] = v(x)
	}
	return out
}

func rowText(r api.Row) string {
	l := make([]string, len(r))
	for i, x := range r {
		l[i] = value.Print(x)
	}
	return "(" + strings.Join(l, ", ") + ")"
}

// columns are some by their names: the kind behind it (i, t, b), and a ? where it may be null.
func columns(l ...string) []api.Column {
	var out []api.Column
	for _, s := range l {
		name, rest, _ := strings.Cut(s, " ")
		out = append(out, api.Column{Name: name, Kind: 1 + strings.Index("itb", rest[:1]), Null: strings.HasSuffix(rest, "?")})
	}
	return out
}

// told is a table as it is told, whose key is its first column.
func told(id int, name string, l ...string) api.Table {
	return api.Table{ID: id, Version: 1, Name: name, Columns: columns(l...)}
}

// nine is the chapter's table as it is told, of the number 9.
func nine() api.Table { return told(9, "t", "id i", "name t?") }

// The messages.
func begin(xid, lsn int) api.Message { return api.Message{Kind: api.MsgBegin, Xid: xid, Lsn: lsn} }

func head(t api.Table) api.Message { return api.Message{Kind: api.MsgTable, Tab: t} }

func insert(table int, l ...any) api.Message {
	return api.Message{Kind: api.MsgInsert, Table: table, New: r(l...)}
}

func update(table int, from, to api.Row) api.Message {
	return api.Message{Kind: api.MsgUpdate, Table: table, Old: from, New: to}
}

func remove(table int, l ...any) api.Message {
	return api.Message{Kind: api.MsgDelete, Table: table, Old: r(l...)}
}

func emptied(table int) api.Message { return api.Message{Kind: api.MsgEmpty, Table: table} }

func commit(xid, lsn, end int) api.Message {
	return api.Message{Kind: api.MsgCommit, Xid: xid, Lsn: lsn, End: end}
}

func mark(kind, lsn int) api.Message { return api.Message{Kind: kind, Lsn: lsn} }

// whole is a transaction of these messages, which ends 20 behind its place.
func whole(xid, lsn int, l ...api.Message) []api.Message {
	return slices.Concat([]api.Message{begin(xid, lsn)}, l, []api.Message{commit(xid, lsn, lsn+20)})
}

// laid are messages as bytes.
func laid(t *testing.T, l ...api.Message) []string {
	t.Helper()
	var out []string
	for _, m := range l {
		s, e := publish.Encode(m)
		if e != api.OK {
			t.Fatalf("Encode(%+v): %d", m, e)
		}
		out = append(out, s)
	}
	return out
}

// desk is a store with its disk, and an applier on it.
type desk struct {
	t *testing.T
	d *files.Disk
	s *store.Store
	a *apply.Applier
}

// formatted is a disk with a store without anything.
func formatted(t *testing.T, capacity int) *files.Disk {
	t.Helper()
	d, e := files.New(capacity)
	if e != api.OK {
		t.Fatalf("files.New: %d", e)
	}
	if e := store.Format(d); e != api.OK {
		t.Fatalf("Format: %d", e)
	}
	return d
}

// on is an applier of the origin pub on the store of a disk.
func on(t *testing.T, d *files.Disk) *desk {
	t.Helper()
	s, e := store.Open(d)
	if e != api.OK {
		t.Fatalf("Open: %d", e)
	}
	return &desk{t, d, s, applier(t, s, "pub")}
}

func applier(t *testing.T, s *store.Store, origin string) *apply.Applier {
	t.Helper()
	a, e := apply.New(s, origin)
	if a == nil || e != api.OK {
		t.Fatalf("New(%q): %v, %d", origin, a, e)
	}
	return a
}

// bare is one on a store without tables; newDesk is one on a store with the chapter's table t.
func bare(t *testing.T) *desk {
	t.Helper()
	return on(t, formatted(t, room))
}

func newDesk(t *testing.T) *desk {
	t.Helper()
	k := bare(t)
	k.create("t", 0, "id i", "name t?", "more t?")
	return k
}

func (k *desk) create(name string, key int, l ...string) {
	k.t.Helper()
	_, e := k.s.CreateTable(name, columns(l...), key)
	k.ok(e)
}

func (k *desk) ok(l ...api.Errno) {
	k.t.Helper()
	for i, e := range l {
		if e != api.OK {
			k.t.Fatalf("call %d: %d", i, e)
		}
	}
}

func (k *desk) is(what string, got, want any) {
	k.t.Helper()
	if fmt.Sprint(got) != fmt.Sprint(want) {
		k.t.Errorf("%s: %v, want %v", what, got, want)
	}
}

// beside is another applier on the same store.
func (k *desk) beside(origin string) *desk {
	k.t.Helper()
	return &desk{k.t, k.d, k.s, applier(k.t, k.s, origin)}
}

// crash loses what does not last, and opens the store anew, with another applier.
func (k *desk) crash() {
	k.t.Helper()
	k.ok(k.d.Crash(nil))
	*k = *on(k.t, k.d)
}

// crashKeeping loses nothing of what was written.
func (k *desk) crashKeeping() {
	k.t.Helper()
	k.ok(k.d.Crash(pending(k.d, 10)))
	*k = *on(k.t, k.d)
}

// pending keeps of each file so many tenths of what does not last.
func pending(d *files.Disk, tenths int) []api.Keep {
	var l []api.Keep
	for _, name := range d.List() {
		l = append(l, api.Keep{Name: name, Bytes: d.Pending(name) * tenths / 10})
	}
	return l
}

// put commits rows of a table that are not there.
func (k *desk) put(table string, l ...api.Row) {
	k.t.Helper()
	x, e := k.s.Begin()
	k.ok(e)
	for _, row := range l {
		k.ok(k.s.Insert(x, table, row))
	}
	_, e = k.s.Commit(x)
	k.ok(e)
}

// rows are those of a table that a transaction sees, or that are committed (0).
func (k *desk) rows(x int, table string) string {
	var l []string
	for row := range k.s.Scan(x, table) {
		l = append(l, rowText(row))
	}
	return strings.Join(l, " ")
}

func (k *desk) has(table, want string) {
	k.t.Helper()
	k.is("the rows of "+table, k.rows(0, table), want)
}

// sees holds what the applier's local transaction sees.
func (k *desk) sees(table, want string) {
	k.t.Helper()
	l := k.s.Active()
	if len(l) == 0 {
		k.t.Fatal("no transaction is open")
	}
	k.is("what the local transaction sees of "+table, k.rows(l[len(l)-1], table), want)
}

// committed is all that is committed: tables with their rows.
func (k *desk) committed() string {
	out := ""
	for _, t := range k.s.Tables() {
		out += fmt.Sprint(t, k.rows(0, t.Name), "; ")
	}
	return out
}

// kept is what a transaction that fails leaves as it was.
func (k *desk) kept() string {
	return fmt.Sprint(k.a.Progress(), k.a.Tally(), k.committed())
}

// bytesOf has of a disk, dead or not, what lasts and how much does not; of a living one also what does not.
func bytesOf(d *files.Disk) string {
	out := fmt.Sprint(d.Files())
	for _, name := range d.List() {
		n, _ := d.Size(name)
		s, _ := d.Read(name, 0, n)
		out += fmt.Sprint(name, d.Pending(name), s, ";")
	}
	return out
}

// stands holds what an applier tells of itself.
func (k *desk) stands(progress int, want api.Tally, inside bool) {
	k.t.Helper()
	for range 2 {
		if k.a.Progress() != progress || k.a.Tally() != want || k.a.Inside() != inside {
			k.t.Errorf("it stands: %d, %+v, %v, want %d, %+v, %v", k.a.Progress(), k.a.Tally(), k.a.Inside(), progress, want, inside)
		}
	}
}

// tally is one by its five numbers.
func tally(whole, inserted, updated, deleted, missed int) api.Tally {
	return api.Tally{Whole: whole, Inserted: inserted, Updated: updated, Deleted: deleted, Missed: missed}
}

// takes: each message is OK.
func (k *desk) takes(l ...api.Message) {
	k.t.Helper()
	for i, s := range laid(k.t, l...) {
		if e := k.a.Take(s); e != api.OK {
			k.t.Errorf("Take of %+v: %d", l[i], e)
		}
	}
}

// answers holds what a message is answered.
func (k *desk) answers(m api.Message, want api.Errno) {
	k.t.Helper()
	if e := k.a.Take(laid(k.t, m)[0]); e != want {
		k.t.Errorf("Take of %+v: %d, want %d", m, e, want)
	}
}

// idly: a message that is answered so, and changes nothing at all.
func (k *desk) idly(m api.Message, want api.Errno) {
	k.t.Helper()
	k.bytesIdly(laid(k.t, m)[0], want)
}

func (k *desk) bytesIdly(s string, want api.Errno) {
	k.t.Helper()
	all := func() string {
		return fmt.Sprint(k.kept(), k.a.Inside(), k.s.Active(), k.s.Prepared(), bytesOf(k.d))
	}
	before := all()
	if e := k.a.Take(s); e != want {
		k.t.Errorf("Take(%x): %d, want %d", s, e, want)
	}
	if after := all(); after != before {
		k.t.Errorf("Take(%x) has changed something: %s, was %s", s, after, before)
	}
}

// fails: a message that lets the transaction fail: all that it did is aborted, and what was is as it was.
func (k *desk) fails(m api.Message, want api.Errno) {
	k.t.Helper()
	before, active := k.kept(), k.s.Active()
	k.answers(m, want)
	if after := k.kept(); after != before || k.a.Inside() {
		k.t.Errorf("behind %+v: inside %v, %s, was %s", m, k.a.Inside(), after, before)
	}
	var gone []int
	for _, x := range active {
		if !slices.Contains(k.s.Active(), x) {
			gone = append(gone, x)
		}
	}
	if len(gone) != 1 {
		k.t.Fatalf("behind %+v: of %v these are gone: %v", m, active, gone)
	}
	l := k.logged(8192)
	k.is("the last record", l[len(l)-1], fmt.Sprint("abort ", gone[0]))
}

// failsPassedOver: one that lets a transaction fail that is passed over: nothing is logged.
func (k *desk) failsPassedOver(m api.Message, want api.Errno) {
	k.t.Helper()
	before := fmt.Sprint(k.kept(), k.s.Active(), bytesOf(k.d))
	k.answers(m, want)
	if after := fmt.Sprint(k.kept(), k.s.Active(), bytesOf(k.d)); after != before || k.a.Inside() {
		k.t.Errorf("behind %+v: inside %v, %s, was %s", m, k.a.Inside(), after, before)
	}
}

// logged are in words the records of the log from a place on, also those that do not last yet.
func (k *desk) logged(from int) []string {
	k.t.Helper()
	var words []string
	for at := from; ; {
		payload, next, e := k.s.Log().Read(at)
		if e == api.ErrWalEnd {
			return words
		}
		x, wrong := record.Decode(payload)
		k.ok(e, wrong)
		words = append(words, record.Print(x))
		at = next
	}
}

// logs holds against words what messages log, each of which is OK.
func (k *desk) logs(want string, l ...api.Message) {
	k.t.Helper()
	end := k.s.Log().End()
	k.takes(l...)
	k.is("what is logged", strings.Join(k.logged(end), "; "), want)
}
