package store_test

import (
	"fmt"
	"slices"
	"testing"

	"confluence/api"
	"confluence/code"
	"confluence/files"
	"confluence/record"
	"confluence/store"
)

// newBase is the base of an empty store: CB, its position 8192, no origin, no row; next numbers 1, no table.
var newBase = framed("CB\x80\x40\x00\x00") + framed("\x0f\x01\x01\x00")

// newLog is its log.
var newLog = framed("\x0f\x01\x01\x00")

func TestS1Format(t *testing.T) {
	d := newDisk(t, room)
	if e := store.Format(d); e != api.OK {
		t.Fatalf("Format: %d", e)
	}
	want := []api.File{{Name: "base", Bytes: newBase}, {Name: "wal.000001", Bytes: newLog}}
	if got := d.Files(); !slices.Equal(got, want) {
		t.Errorf("what lasts behind Format: %q, want %q", got, want)
	}
	k := &desk{t: t, d: d}
	k.open()
	k.is("Tables", len(k.s.Tables()), 0)
	k.is("Based", k.s.Based(), 8192)
	k.is("the first record", k.at(8192), "checkpoint next 1 table 1")
	k.is("Doubt", k.s.Doubt(), false)
	if k.s.Disk() != d || k.s.Log() == nil {
		t.Error("Disk or Log is another one")
	}
	k.is("Begin", k.begin(), 1)
}

// TestS1There: beside a base or a first segment nothing is done, whatever these are.
func TestS1There(t *testing.T) {
	for _, l := range [][]api.File{
		{{Name: "base"}},
		{{Name: "base", Bytes: "junk"}, {Name: "base.new"}},
		{{Name: "wal.000001"}},
		{{Name: "wal.000001", Bytes: "junk"}},
		{{Name: "base", Bytes: newBase}, {Name: "wal.000001", Bytes: newLog}},
	} {
		d := loaded(t, l)
		if e := store.Format(d); e != api.ErrStoreThere {
			t.Errorf("Format beside %q: %d", l, e)
		}
		if got := bytesOf(t, d); !slices.Equal(got, l) {
			t.Errorf("a Format that is refused leaves %q, want %q", got, l)
		}
	}
}

// TestS1Beside: other files are no hindrance; what is no part of the log, and a base.new, is taken away.
func TestS1Beside(t *testing.T) {
	d := loaded(t, []api.File{{Name: "base.new", Bytes: "junk"}, {Name: "other", Bytes: "o"}, {Name: "wal.000002", Bytes: newLog}, {Name: "wal.1"}})
	if e := store.Format(d); e != api.OK {
		t.Fatalf("Format: %d", e)
	}
	want := []api.File{{Name: "base", Bytes: newBase}, {Name: "other", Bytes: "o"}, {Name: "wal.000001", Bytes: newLog}, {Name: "wal.1"}}
	if got := d.Files(); !slices.Equal(got, want) {
		t.Errorf("what lasts behind Format: %q, want %q", got, want)
	}
}

func TestS1Dead(t *testing.T) {
	d := loaded(t, []api.File{{Name: "base"}})
	d.Arm(1)
	d.Create("x")
	if e := store.Format(d); e != api.ErrDead {
		t.Errorf("Format of a dead disk with a base: %d", e)
	}
}

// formatActs are those of Format on an empty disk: the segment, base.new, its two frames, a Sync, a Rename, the record, a Sync.
const formatActs = 8

func TestS1Acts(t *testing.T) {
	for n := 1; n <= formatActs; n++ {
		d := newDisk(t, room)
		d.Arm(n)
		if e := store.Format(d); e != api.ErrDead {
			t.Errorf("Format that dies in act %d: %d", n, e)
		}
		d.Crash(nil)
		s, e := store.Open(d)
		whole := n > 6 // the base has its name then, and its position is the log's end
		if (s != nil) != whole || (e == api.OK) != whole {
			t.Errorf("Open behind a Format that died in act %d: %d", n, e)
		}
		if e := store.Format(d); (e == api.ErrStoreThere) != (n > 1) {
			t.Errorf("Format behind a Format that died in act %d: %d", n, e)
		}
	}
	d := newDisk(t, room)
	d.Arm(formatActs + 1)
	if e := store.Format(d); e != api.OK || d.Create("x") != api.ErrDead {
		t.Errorf("Format has not %d acts: %d", formatActs, e)
	}
}

// TestS1ActsBeside: with what must be taken away there are two acts more, in which the disk may die, too.
func TestS1ActsBeside(t *testing.T) {
	l := []api.File{{Name: "base.new", Bytes: "junk"}, {Name: "wal.000002", Bytes: "junk"}}
	for n := 1; n <= formatActs+2; n++ {
		d := loaded(t, l)
		d.Arm(n)
		if e := store.Format(d); e != api.ErrDead {
			t.Errorf("Format that dies in act %d: %d", n, e)
		}
	}
	d := loaded(t, l)
	d.Arm(formatActs + 3)
	if e := store.Format(d); e != api.OK || d.Create("x") != api.ErrDead {
		t.Errorf("Format has not %d acts: %d", formatActs+2, e)
	}
}

func TestS1Fails(t *testing.T) {
	for n := 1; n <= 2; n++ {
		d := newDisk(t, room)
		d.FailSync(n)
		if e := store.Format(d); e != api.ErrStoreDoubt {
			t.Errorf("Format whose Sync %d fails: %d", n, e)
		}
	}
	need := len(newBase) + len(newLog)
	for n := 1; n <= need+1; n++ {
		want := api.ErrStoreDoubt
		if n >= need {
			want = api.OK
		}
		d := newDisk(t, n)
		if e := store.Format(d); e != want {
			t.Errorf("Format with room for %d: %d, want %d", n, e, want)
		}
	}
}

// origin is one of a base, as a test lays it down.
type origin struct {
	name string
	lsn  int
}

// line is a row of a base.
type line struct {
	table int
	row   api.Row
}

// base is a base in parts, each of which a test may spoil.
type base struct {
	mark          string
	position      int
	origins, rows int // what the head says
	check         string
	tail          []string // the pages of origins and rows
	behind        string
}

// baseOf is a right base, if what it is made of is right.
func baseOf(position int, check api.Rec, origins []origin, rows []line) base {
	b := base{mark: "CB", position: position, origins: len(origins), rows: len(rows), check: encoded(check)}
	for _, o := range origins {
		w := code.NewWriter()
		w.Text(o.name, 1000)
		w.Var(o.lsn)
		s, _ := w.Done()
		b.tail = append(b.tail, s)
	}
	for _, x := range rows {
		b.tail = append(b.tail, rowPage(x.table, x.row))
	}
	return b
}

func rowPage(table int, row api.Row) string {
	w := code.NewWriter()
	w.Var(table)
	w.Byte(len(row))
	for _, x := range row {
		switch x.Kind {
		case api.Null:
			w.Byte(0)
		case api.Int:
			w.Byte(1)
			w.Int(x.N)
		case api.Text:
			w.Byte(2)
			w.Text(x.S, 1000)
		default:
			w.Byte(3 + x.N)
		}
	}
	s, _ := w.Done()
	return s
}

func (b base) head() string {
	w := code.NewWriter()
	w.Raw(b.mark)
	w.Var(b.position)
	w.Var(b.origins)
	w.Var(b.rows)
	s, _ := w.Done()
	return s
}

func (b base) bytes() string {
	out := framed(b.head()) + framed(b.check)
	for _, p := range b.tail {
		out += framed(p)
	}
	return out + b.behind
}

// disk is one with this base, and a log of these records.
func (b base) disk(t *testing.T, l ...api.Rec) *files.Disk {
	t.Helper()
	log := ""
	for _, x := range l {
		log += framed(encoded(x))
	}
	return loaded(t, []api.File{{Name: "base", Bytes: b.bytes()}, {Name: "wal.000001", Bytes: log}})
}

// opens holds an Open of a disk against whether there is a store.
func opens(t *testing.T, what string, d *files.Disk, want bool) *store.Store {
	t.Helper()
	s, e := store.Open(d)
	if want && (s == nil || e != api.OK) || !want && (s != nil || e != api.ErrStoreForm) {
		t.Errorf("%s: Open: %v, %d", what, s != nil, e)
	}
	return s
}

// table is a right one.
func table(id, version int, name string, columns []api.Column, key int) api.Table {
	return api.Table{ID: id, Version: version, Name: name, Columns: columns, Key: key}
}

// good is a base that has something of all: two tables, two origins, rows of both.
func good() base {
	wide := append(slices.Clone(two), more)
	return baseOf(8192, api.Rec{Kind: api.RecCheckpoint, Xid: 9, Table: 8, Tabs: []api.Table{
		table(3, 2, "t", wide, 0),
		table(7, 1, "u", []api.Column{{Name: "n", Kind: api.Bool, Null: true}, {Name: "k", Kind: api.Text}}, 1),
	}}, []origin{{"a", 1}, {"b", lastPosition}}, []line{
		{3, r(-5, nil, true)}, {3, r(7, "x", nil)}, {3, r(8, "", false)}, {7, r(nil, "")}, {7, r(true, "a")}, {7, r(false, "aa")},
	})
}

func TestS2Base(t *testing.T) {
	k := &desk{t: t, d: good().disk(t)}
	k.open()
	k.is("Tables", record.Print(api.Rec{Kind: api.RecCheckpoint, Xid: 1, Table: 8, Tabs: k.s.Tables()}),
		"checkpoint next 1 table 8 t 3.2 (id int, name text null, more bool null) key id u 7.1 (n bool null, k text) key k")
	k.is("t", k.rows(0, "t"), "(-5, null, true) (7, 'x', null) (8, '', false)")
	k.is("u", k.rows(0, "u"), "(null, '') (true, 'a') (false, 'aa')")
	k.is("origins", fmt.Sprint(k.s.Origin("a"), k.s.Origin("b"), k.s.Origin("c")), "1 819208192 0")
	k.is("Based", k.s.Based(), 8192)
	k.is("Begin", k.begin(), 9)
	// They are rows as all others: written upon, in conflict, dropped.
	k.ok(k.s.Update(9, "t", r(7, "y")), k.s.Delete(9, "u", v("")), k.s.Insert(9, "u", r(true, "")))
	k.is("a row that is there", k.s.Insert(9, "t", r(8)), api.ErrRowThere)
	k.begin()
	k.is("an update of what another has updated", k.s.Update(10, "t", r(7)), api.ErrRowConflict)
	k.commit(9)
	k.is("t", k.rows(0, "t"), "(-5, null, true) (7, 'y', null) (8, '', false)")
	k.is("t, for who began ahead of that", k.rows(10, "t"), "(-5, null, true) (7, 'x', null) (8, '', false)")
	_, e := k.s.CreateTable("v", two, 0)
	k.ok(e)
	k.is("the next table", k.s.Tables()[2].ID, 8)
}
