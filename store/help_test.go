package store_test

import (
	"fmt"
	"slices"
	"strings"
	"testing"

	"confluence/api"
	"confluence/code"
	"confluence/files"
	"confluence/record"
	"confluence/store"
	"confluence/value"
)

const (
	room         = 10000000 // bytes of a disk that has enough
	lastXid      = 2147483647
	lastPosition = 819208192
)

// The columns of the table t, and one by which it may be widened.
var (
	two  = []api.Column{{Name: "id", Kind: api.Int}, {Name: "name", Kind: api.Text, Null: true}}
	more = api.Column{Name: "more", Kind: api.Bool, Null: true}
)

// odd are names that are none.
var odd = []string{"", "A", "1a", "_a", "a-", "a b", "abcdefghijklmnopq", "a\x00", "ä", "-", "a.b"}

// v is a value by what Go has for it.
func v(x any) api.Value {
	switch x := x.(type) {
	case int:
		return api.Value{Kind: api.Int, N: x}
	case string:
		return api.Value{Kind: api.Text, S: x}
	case bool:
		if x {
			return api.Value{Kind: api.Bool, N: 1}
		}
		return api.Value{Kind: api.Bool}
	case api.Value:
		return x
	}
	return api.Value{}
}

// r is a row of values.
func r(l ...any) api.Row {
	out := make(api.Row, len(l))
	for i, x := range l {
		out[i] = v(x)
	}
	return out
}

func rowText(r api.Row) string {
	l := make([]string, len(r))
	for i, x := range r {
		l[i] = value.Print(x)
	}
	return "(" + strings.Join(l, ", ") + ")"
}

// desk is a store with its disk, and up to where its log has been looked at.
type desk struct {
	t    *testing.T
	d    *files.Disk
	s    *store.Store
	seen int
}

func newDisk(t *testing.T, capacity int) *files.Disk {
	t.Helper()
	d, e := files.New(capacity)
	if e != api.OK {
		t.Fatalf("files.New(%d): %d", capacity, e)
	}
	return d
}

func loaded(t *testing.T, l []api.File) *files.Disk {
	t.Helper()
	return loadedWith(t, room, l)
}

func loadedWith(t *testing.T, capacity int, l []api.File) *files.Disk {
	t.Helper()
	d, e := files.Load(capacity, l)
	if e != api.OK {
		t.Fatalf("files.Load(%d): %d", capacity, e)
	}
	return d
}

// bare is a store without anything.
func bare(t *testing.T) *desk {
	t.Helper()
	k := &desk{t: t, d: newDisk(t, room)}
	k.ok(store.Format(k.d))
	k.open()
	return k
}

// newDesk is a store with the table t; the next number is 2.
func newDesk(t *testing.T) *desk {
	t.Helper()
	k := bare(t)
	_, e := k.s.CreateTable("t", two, 0)
	k.ok(e)
	k.seen = k.s.Log().End()
	return k
}

// open opens the store anew on its disk.
func (k *desk) open() {
	k.t.Helper()
	s, e := store.Open(k.d)
	if s == nil || e != api.OK {
		k.t.Fatalf("Open: %v, %d", s, e)
	}
	k.s = s
	k.seen = s.Log().End()
}

// crash loses what does not last, and opens the store anew.
func (k *desk) crash() {
	k.t.Helper()
	k.ok(k.d.Crash(nil))
	k.open()
}

// crashKeeping loses nothing of what was written.
func (k *desk) crashKeeping() {
	k.t.Helper()
	k.ok(k.d.Crash(pending(k.d)))
	k.open()
}

// pending keeps of each file all that does not last.
func pending(d *files.Disk) []api.Keep {
	var l []api.Keep
	for _, name := range d.List() {
		l = append(l, api.Keep{Name: name, Bytes: d.Pending(name)})
	}
	return l
}

func (k *desk) ok(l ...api.Errno) {
	k.t.Helper()
	for i, e := range l {
		if e != api.OK {
			k.t.Fatalf("call %d: %d", i, e)
		}
	}
}

func (k *desk) is(what string, got, want any) {
	k.t.Helper()
	if fmt.Sprint(got) != fmt.Sprint(want) {
		k.t.Errorf("%s: %v, want %v", what, got, want)
	}
}

// refused: an error, and beside it nothing.
func (k *desk) refused(what string, want api.Errno) func(int, api.Errno) {
	return func(n int, e api.Errno) {
		k.t.Helper()
		if n != 0 || e != want {
			k.t.Errorf("%s: %d, %d, want 0, %d", what, n, e, want)
		}
	}
}

func (k *desk) begin() int {
	k.t.Helper()
	x, e := k.s.Begin()
	k.ok(e)
	return x
}

func (k *desk) commit(x int) int {
	k.t.Helper()
	at, e := k.s.Commit(x)
	k.ok(e)
	return at
}

// put commits a row of t that is not there.
func (k *desk) put(l ...any) {
	k.t.Helper()
	x := k.begin()
	k.ok(k.s.Insert(x, "t", r(l...)))
	k.commit(x)
}

// rows are those of a Scan.
func (k *desk) rows(x int, table string) string {
	var l []string
	for r := range k.s.Scan(x, table) {
		l = append(l, rowText(r))
	}
	return strings.Join(l, " ")
}

// sees holds the rows of t that are seen against these, by Scan and by Get of each of its keys.
func (k *desk) sees(x int, want string) {
	k.t.Helper()
	k.is(fmt.Sprintf("Scan(%d)", x), k.rows(x, "t"), want)
	for r := range k.s.Scan(x, "t") {
		k.is(fmt.Sprintf("Get(%d, %s)", x, value.Print(r[0])), k.get(x, "t", r[0]), rowText(r))
	}
}

// get is what Get answers: a row, or an error with nothing beside it.
func (k *desk) get(x int, table string, key any) string {
	k.t.Helper()
	row, e := k.s.Get(x, table, v(key))
	if e != api.OK {
		if len(row) != 0 {
			k.t.Errorf("Get: %v beside %d", row, e)
		}
		return fmt.Sprint(int(e))
	}
	return rowText(row)
}

// records are those of the log from a position on, also those that do not last.
func records(t *testing.T, s *store.Store, from int) []api.Rec {
	t.Helper()
	var l []api.Rec
	for {
		payload, next, e := s.Log().Read(from)
		if e == api.ErrWalEnd {
			return l
		}
		if e != api.OK {
			t.Fatalf("Read(%d): %d", from, e)
		}
		r, e := record.Decode(payload)
		if e != api.OK {
			t.Fatalf("Decode of what stands at %d: %d", from, e)
		}
		l = append(l, r)
		from = next
	}
}

// at is the record of a position, in words.
func (k *desk) at(lsn int) string {
	k.t.Helper()
	payload, _, e := k.s.Log().Read(lsn)
	k.ok(e)
	r, e := record.Decode(payload)
	k.ok(e)
	return record.Print(r)
}

// logged holds what was logged since it was last asked against these, in words.
func (k *desk) logged(want ...string) {
	k.t.Helper()
	var got []string
	for _, x := range records(k.t, k.s, k.seen) {
		got = append(got, record.Print(x))
	}
	k.seen = k.s.Log().End()
	if !slices.Equal(got, want) {
		k.t.Errorf("logged %q, want %q", got, want)
	}
}

// lasts: whether all that was logged lasts.
func (k *desk) lasts(want bool) {
	k.t.Helper()
	if l := k.s.Log(); (l.Flushed() == l.End()) != want {
		k.t.Errorf("all that was logged lasts: %v, want %v (%d of %d)", !want, want, l.Flushed(), l.End())
	}
}

// costs holds a call against how many acts it does, on desks that are made for that: one that would die in the next act,
// and one that dies in the last.
func costs(t *testing.T, want int, what string, made func() *desk, call func(*desk)) {
	t.Helper()
	k := made()
	k.ok(k.d.Arm(want + 1))
	call(k)
	if k.d.Dead() {
		t.Errorf("%s: more acts than %d", what, want)
	} else if k.d.Create("probe") != api.ErrDead {
		t.Errorf("%s: fewer acts than %d", what, want)
	}
	if want > 0 {
		k = made()
		k.ok(k.d.Arm(want))
		call(k)
		if !k.d.Dead() || !k.s.Doubt() {
			t.Errorf("%s: alive, or not in doubt, behind act %d", what, want)
		}
	}
}

// bytesOf has of a living disk each file's bytes, pending or not.
func bytesOf(t *testing.T, d *files.Disk) []api.File {
	t.Helper()
	var out []api.File
	for _, name := range d.List() {
		n, _ := d.Size(name)
		s, e := d.Read(name, 0, n)
		if e != api.OK {
			t.Fatalf("Read(%q): %d", name, e)
		}
		out = append(out, api.File{Name: name, Bytes: s})
	}
	return out
}

// fileOf is the bytes of one file, pending or not.
func fileOf(t *testing.T, d *files.Disk, name string) string {
	t.Helper()
	for _, f := range bytesOf(t, d) {
		if f.Name == name {
			return f.Bytes
		}
	}
	t.Fatalf("there is no file %q", name)
	return ""
}

func framed(payload string) string {
	f, _ := code.Frame(payload)
	return f
}

func encoded(r api.Rec) string {
	s, e := record.Encode(r)
	if e != api.OK {
		panic(fmt.Sprint("a record that may not be: ", e, r))
	}
	return s
}

// printed is a value as it is printed, by which the model knows keys.
func printed(x api.Value) string { return value.Print(x) }
