package spill_test

import (
	"fmt"
	"slices"
	"strings"
	"testing"

	"confluence/api"
	"confluence/code"
	"confluence/files"
	"confluence/spill"
	"confluence/value"
)

func is(t *testing.T, what string, got, want api.Errno) {
	t.Helper()
	if got != want {
		t.Errorf("%s: %d, want %d", what, got, want)
	}
}

// loaded is a disk with these files, all of which last.
func loaded(t *testing.T, capacity int, l ...api.File) *files.Disk {
	t.Helper()
	d, e := files.Load(capacity, l)
	if d == nil || e != api.OK {
		t.Fatalf("Load: %d", e)
	}
	return d
}

func opened(t *testing.T, d *files.Disk, name string) *spill.Store {
	t.Helper()
	s, e := spill.Open(d, name)
	if s == nil || e != api.OK {
		t.Fatalf("Open(%q): %d", name, e)
	}
	return s
}

func opensNot(t *testing.T, d *files.Disk, name string, want api.Errno) {
	t.Helper()
	if s, e := spill.Open(d, name); s != nil || e != want {
		t.Errorf("Open(%q): %v, %d, want %d", name, s, e, want)
	}
}

// begun is a disk with a store of the name a.
func begun(t *testing.T, capacity int) (*files.Disk, *spill.Store) {
	t.Helper()
	d := loaded(t, capacity)
	return d, opened(t, d, "a")
}

// named is the file of a segment of the store a.
func named(xid, segment int) string { return fmt.Sprintf("spill.a.%d.%d", xid, segment) }

func number(n int) api.Value     { return api.Value{Kind: api.Int, N: n} }
func text(s string) api.Value    { return api.Value{Kind: api.Text, S: s} }
func truth(n int) api.Value      { return api.Value{Kind: api.Bool, N: n} }
func row(l ...api.Value) api.Row { return l }

// change is a right one, in which each number hangs on its position.
func change(lsn, xid int) api.Change {
	return api.Change{Lsn: lsn, Xid: xid, Kind: api.RecInsert + lsn%3, Table: 1 + lsn%4, Old: row(number(-lsn)), New: row(api.Value{}, text(fmt.Sprint("x", lsn)), truth(lsn%2))}
}

// changes are some of one transaction, at positions that rise by one.
func changes(lsn, xid, count int) []api.Change {
	var l []api.Change
	for i := range count {
		l = append(l, change(lsn+i, xid))
	}
	return l
}

// with is a right change, spoilt or mended by f.
func with(f func(c *api.Change)) api.Change {
	c := change(5, 7)
	f(&c)
	return c
}

// rowBytes is a row as layer 4 writes it.
func rowBytes(r api.Row) string {
	s, _ := value.Encode(r)
	return s
}

// payloadOf is what the frame of a change has, as the chapter says it, of any numbers and of any bytes of its rows.
func payloadOf(lsn, xid, kind, table int, from, to string) string {
	w := code.NewWriter()
	w.Var(lsn)
	w.Var(xid)
	w.Byte(kind)
	w.Var(table)
	w.Text(from, 4000)
	w.Text(to, 4000)
	s, _ := w.Done()
	return s
}

func framed(payload string) string {
	f, _ := code.Frame(payload)
	return f
}

// laid is changes as bytes, one behind the other.
func laid(l ...api.Change) string {
	out := ""
	for _, c := range l {
		out += framed(payloadOf(c.Lsn, c.Xid, c.Kind, c.Table, rowBytes(c.Old), rowBytes(c.New)))
	}
	return out
}

func writes(t *testing.T, s *spill.Store, xid int, want api.Errno, l ...api.Change) {
	t.Helper()
	if e := s.Write(xid, l); e != want {
		t.Errorf("Write(%d, %d changes): %d, want %d", xid, len(l), e, want)
	}
}

func same(a, b api.Change) bool {
	return a.Lsn == b.Lsn && a.Xid == b.Xid && a.Kind == b.Kind && a.Table == b.Table && value.Same(a.Old, b.Old) && value.Same(a.New, b.New)
}

func isZero(c api.Change) bool { return same(c, api.Change{}) && c.Old == nil && c.New == nil }

func cursor(t *testing.T, s *spill.Store, xid, segment int) *spill.Cursor {
	t.Helper()
	c, e := s.Cursor(xid, segment)
	if c == nil || e != api.OK {
		t.Fatalf("Cursor(%d, %d): %d", xid, segment, e)
	}
	return c
}

func cursorNot(t *testing.T, s *spill.Store, xid, segment int, want api.Errno) {
	t.Helper()
	if c, e := s.Cursor(xid, segment); c != nil || e != want {
		t.Errorf("Cursor(%d, %d): %v, %d, want %d", xid, segment, c, e, want)
	}
}

// tells asks a cursor for these changes, one behind the other.
func tells(t *testing.T, c *spill.Cursor, want ...api.Change) {
	t.Helper()
	for _, x := range want {
		if got, ok, e := c.Next(); !same(got, x) || !ok || e != api.OK {
			t.Errorf("Next: %v, %v, %d, want %v", got, ok, e, x)
		}
	}
}

// ends asks a cursor twice: nothing, and the same each time: an error, or OK at the file's end.
func ends(t *testing.T, c *spill.Cursor, want api.Errno) {
	t.Helper()
	for range 2 {
		if got, ok, e := c.Next(); !isZero(got) || ok || e != want {
			t.Errorf("Next: %v, %v, %d, want nothing, %d", got, ok, e, want)
		}
	}
}

// reads holds a whole segment against these changes, and how it ends.
func reads(t *testing.T, s *spill.Store, xid, segment int, end api.Errno, want ...api.Change) {
	t.Helper()
	c := cursor(t, s, xid, segment)
	tells(t, c, want...)
	ends(t, c, end)
}

// knows holds a store against the transactions that it has, each with how many segments.
func knows(t *testing.T, s *spill.Store, want ...[2]int) {
	t.Helper()
	var l []int
	for _, x := range want {
		l = append(l, x[0])
		if n := s.Segments(x[0]); n != x[1] {
			t.Errorf("Segments(%d): %d, want %d", x[0], n, x[1])
		}
	}
	if got := s.All(); !slices.Equal(got, l) {
		t.Errorf("All: %v, want %v", got, l)
	}
}

// bytesOf has of a living disk each file's name and bytes, pending or not.
func bytesOf(d *files.Disk) []api.File {
	var out []api.File
	for _, name := range d.List() {
		n, _ := d.Size(name)
		s, _ := d.Read(name, 0, n)
		out = append(out, api.File{Name: name, Bytes: s})
	}
	return out
}

// holds holds a living disk's files against these, pending bytes too.
func holds(t *testing.T, d *files.Disk, want ...api.File) {
	t.Helper()
	if got := bytesOf(d); !slices.Equal(got, want) {
		t.Errorf("the files are %q, want %q", got, want)
	}
}

// lists holds a disk, dead or not, against the names of its files.
func lists(t *testing.T, d *files.Disk, want ...string) {
	t.Helper()
	if got := d.List(); !slices.Equal(got, want) {
		t.Errorf("the files are %q, want %q", got, want)
	}
}

// costs holds a call against how many acts it does; behind that the disk lives, and all its bytes last.
func costs(t *testing.T, d *files.Disk, want int, what string, call func()) {
	t.Helper()
	is(t, "Arm", d.Arm(want+1), api.OK)
	call()
	if d.Dead() {
		t.Fatalf("%s: more acts than %d", what, want)
	}
	if d.Create("probe") != api.ErrDead {
		t.Fatalf("%s: fewer acts than %d", what, want)
	}
	revive(t, d)
}

// kill lets a disk die by an act of somebody else's.
func kill(t *testing.T, d *files.Disk) {
	t.Helper()
	is(t, "Arm", d.Arm(1), api.OK)
	is(t, "Create", d.Create("probe"), api.ErrDead)
}

// revive is a crash that keeps all bytes.
func revive(t *testing.T, d *files.Disk) {
	t.Helper()
	var l []api.Keep
	for _, name := range d.List() {
		l = append(l, api.Keep{Name: name, Bytes: d.Pending(name)})
	}
	is(t, "Crash", d.Crash(l), api.OK)
}

// replace gives a file other bytes, as somebody else may do.
func replace(t *testing.T, d *files.Disk, name, bytes string) {
	t.Helper()
	is(t, "Truncate of "+name, d.Truncate(name, 0), api.OK)
	is(t, "Append to "+name, d.Append(name, bytes), api.OK)
}

// wide is a row of the most bytes that there may be.
func wide() api.Row {
	r := make(api.Row, api.MaxColumns)
	for i := range r {
		r[i] = text(strings.Repeat(string(rune('a'+i)), api.MaxText))
	}
	return r
}
