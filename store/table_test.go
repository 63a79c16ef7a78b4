package store_test

import (
	"fmt"
	"testing"

	"confluence/api"
	"confluence/record"
)

// told are all tables, in words.
func (k *desk) told() string {
	out := ""
	for _, t := range k.s.Tables() {
		out += record.Print(api.Rec{Kind: api.RecCreate, Xid: 1, Tab: t})[len("create 1 "):] + "; "
	}
	return out
}

func TestS11Create(t *testing.T) {
	k := bare(t)
	at, e := k.s.CreateTable("t", two, 0)
	k.ok(e)
	k.is("at its position", k.at(at), "create 1 t 1.1 (id int, name text null) key id")
	k.lasts(true)
	at, e = k.s.CreateTable("a", []api.Column{{Name: "x", Kind: api.Bool}, {Name: "k", Kind: api.Text}}, 1)
	k.ok(e)
	k.is("at its position", k.at(at), "create 2 a 2.1 (x bool, k text) key k")
	k.logged("create 1 t 1.1 (id int, name text null) key id", "create 2 a 2.1 (x bool, k text) key k")
	want := "t 1.1 (id int, name text null) key id; a 2.1 (x bool, k text) key k; "
	k.is("Tables", k.told(), want)
	k.crash()
	k.is("Tables", k.told(), want)
	k.is("Begin", k.begin(), 3)
}

func TestS11CreateRefused(t *testing.T) {
	k := newDesk(t)
	nine := make([]api.Column, 9)
	for i := range nine {
		nine[i] = api.Column{Name: fmt.Sprint("c", i), Kind: api.Int}
	}
	for _, x := range []struct {
		name    string
		columns []api.Column
		key     int
		want    api.Errno
	}{
		{"T", nil, 9, api.ErrTableName},
		{"", two, 0, api.ErrTableName},
		{"t", nil, 9, api.ErrTableThere},
		{"u", nil, 0, api.ErrColumnMany},
		{"u", nine, 0, api.ErrColumnMany},
		{"u", []api.Column{{Name: "A", Kind: api.Int}}, 0, api.ErrTableName},
		{"u", []api.Column{two[0], two[0]}, 0, api.ErrColumnThere},
		{"u", []api.Column{{Name: "a"}}, 0, api.ErrArg},
		{"u", two, 1, api.ErrColumnKey},
		{"u", two, 2, api.ErrColumnKey},
		{"u", two, -1, api.ErrColumnKey},
	} {
		k.refused(fmt.Sprint("CreateTable ", x), x.want)(k.s.CreateTable(x.name, x.columns, x.key))
	}
	k.logged()
	for i := range 15 {
		_, e := k.s.CreateTable(fmt.Sprint("t", i), two, 0)
		k.ok(e)
	}
	k.seen = k.s.Log().End()
	k.refused("a 17th table", api.ErrTableMany)(k.s.CreateTable("u", two, 0))
	k.logged()
	k.is("Begin", k.begin(), 17)
}

func TestS11Drop(t *testing.T) {
	k := newDesk(t)
	k.put(1, "a")
	old := k.begin()
	at, e := k.s.DropTable("t")
	k.ok(e)
	k.is("at its position", k.at(at), "drop 4 table 1")
	k.lasts(true)
	k.is("Tables", k.told(), "")
	k.is("Get", k.get(old, "t", 1), int(api.ErrTableNone))
	k.is("Scan", k.rows(old, "t")+k.rows(0, "t"), "")
	k.refused("DropTable again", api.ErrTableNone)(k.s.DropTable("t"))
	_, e = k.s.CreateTable("t", two, 0)
	k.ok(e)
	k.is("Tables", k.told(), "t 2.1 (id int, name text null) key id; ")
	k.sees(old, "")
	k.ok(k.s.Insert(old, "t", r(1, "b")))
	k.commit(old)
	k.crash()
	k.sees(0, "(1, 'b')")
	k.is("Tables", k.told(), "t 2.1 (id int, name text null) key id; ")
}

func TestS11Widen(t *testing.T) {
	k := newDesk(t)
	k.put(1, "a")
	at, e := k.s.WidenTable("t", more)
	k.ok(e)
	k.is("at its position", k.at(at), "widen 3 t 1.2 (id int, name text null, more bool null) key id")
	k.lasts(true)
	k.is("Tables", k.told(), "t 1.2 (id int, name text null, more bool null) key id; ")
	k.seen = k.s.Log().End()
	for _, x := range []struct {
		c    api.Column
		want api.Errno
	}{
		{api.Column{Name: "X", Kind: api.Int, Null: true}, api.ErrTableName},
		{more, api.ErrColumnThere},
		{api.Column{Name: "id", Kind: 9}, api.ErrColumnThere},
		{api.Column{Name: "x", Kind: api.Int}, api.ErrArg},
		{api.Column{Name: "x", Null: true}, api.ErrArg},
	} {
		k.refused(fmt.Sprint("WidenTable by ", x.c), x.want)(k.s.WidenTable("t", x.c))
		k.refused(fmt.Sprint("WidenTable of none by ", x.c), api.ErrTableNone)(k.s.WidenTable("u", x.c))
	}
	k.logged()
	for i := range 5 {
		_, e := k.s.WidenTable("t", api.Column{Name: fmt.Sprint("x", i), Kind: api.Text, Null: true})
		k.ok(e)
	}
	k.refused("a ninth column", api.ErrColumnMany)(k.s.WidenTable("t", api.Column{}))
	k.sees(0, "(1, 'a', null, null, null, null, null, null)")
	k.crash()
	k.sees(0, "(1, 'a', null, null, null, null, null, null)")
	k.is("Begin", k.begin(), 9)
}

func TestS11Empty(t *testing.T) {
	k := newDesk(t)
	k.put(1, "a")
	k.put(2, "b")
	old := k.begin()
	k.put(3, "c")
	at, e := k.s.EmptyTable("t")
	k.ok(e)
	k.is("at its position", k.at(at), "empty 6 table 1")
	k.lasts(true)
	k.sees(0, "")
	k.sees(old, "") // for everybody
	k.refused("EmptyTable of none", api.ErrTableNone)(k.s.EmptyTable("u"))
	k.ok(k.s.Insert(old, "t", r(3, "x")))
	k.commit(old)
	k.crash()
	k.sees(0, "(3, 'x')")
	k.is("Tables", k.told(), "t 1.1 (id int, name text null) key id; ")
}

// TestS11Written: not while somebody who is not over has written the table; what was taken back, or is over, does not count.
func TestS11Written(t *testing.T) {
	changes := map[string]func(*desk) (int, api.Errno){
		"DropTable":  func(k *desk) (int, api.Errno) { return k.s.DropTable("t") },
		"WidenTable": func(k *desk) (int, api.Errno) { return k.s.WidenTable("t", more) },
		"EmptyTable": func(k *desk) (int, api.Errno) { return k.s.EmptyTable("t") },
	}
	for what, change := range changes {
		for how, end := range map[string]func(*desk, int) api.Errno{
			"Abort":         func(k *desk, x int) api.Errno { return k.s.Abort(x) },
			"Commit":        func(k *desk, x int) api.Errno { _, e := k.s.Commit(x); return e },
			"RollbackTo":    func(k *desk, x int) api.Errno { return k.s.RollbackTo(x, "s") },
			"AbortPrepared": func(k *desk, x int) api.Errno { k.s.Prepare(x, "w"); return k.s.AbortPrepared("w") },
			"a crash":       func(k *desk, x int) api.Errno { k.crash(); return api.OK },
		} {
			k := newDesk(t)
			k.put(1, "a")
			_, e := k.s.CreateTable("u", two, 0)
			k.ok(e)
			x := k.begin()
			k.ok(k.s.Insert(x, "u", r(1)), k.s.Savepoint(x, "s"))
			k.ok(k.s.Delete(x, "t", v(1)))
			k.seen = k.s.Log().End()
			k.refused(what, api.ErrStoreWritten)(change(k))
			k.logged()
			k.ok(end(k, x))
			if _, e := change(k); e != api.OK {
				t.Errorf("%s behind %s: %d", what, how, e)
			}
		}
		k := newDesk(t)
		x := k.begin()
		k.ok(k.s.Insert(x, "t", r(1)), k.s.Prepare(x, "w"))
		k.refused(what+" while one waits", api.ErrStoreWritten)(change(k))
		k.crash()
		k.refused(what+" while one waits, behind a crash", api.ErrStoreWritten)(change(k))
		_, e := k.s.CommitPrepared("w")
		k.ok(e)
		_, e = change(k)
		k.ok(e)
	}
	// also by the first number of all
	k := &desk{t: t, d: baseOf(8192, checks(1, 2, narrow), nil, nil).disk(t)}
	k.open()
	k.is("Begin", k.begin(), 1)
	k.ok(k.s.Insert(1, "t", r(1)))
	for what, change := range changes {
		k.refused(what+" of what the first one has written", api.ErrStoreWritten)(change(k))
	}
	k = newDesk(t)
	x := k.begin()
	k.ok(k.s.Insert(x, "t", r(1)))
	k.refused("WidenTable by a column that may not be, of what is written", api.ErrColumnThere)(k.s.WidenTable("t", two[0]))
	k.refused("WidenTable of what is written", api.ErrStoreWritten)(k.s.WidenTable("t", more))
}

func TestS12Origin(t *testing.T) {
	k := newDesk(t)
	k.is("Origin", k.s.Origin("pub"), 0)
	x := k.begin()
	k.is("Prepare", k.s.Prepare(x, "pub"), api.OK)
	k.is("Origin is no name of one that waits", k.s.Origin("pub"), 0)
	x = k.begin()
	_, e := k.s.CommitFrom(x, "pub", 9)
	k.ok(e)
	k.is("Origin", k.s.Origin("pub"), 9)
	for _, name := range odd {
		k.is("Origin of no name", k.s.Origin(name), 0)
	}
	k.crash()
	k.is("Origin", k.s.Origin("pub"), 9)
	k.is("Prepared", k.s.Prepared(), []string{"pub"})
}
