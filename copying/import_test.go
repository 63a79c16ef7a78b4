package copying_test

import (
	"fmt"
	"testing"

	"confluence/api"
	"confluence/code"
	"confluence/copying"
	"confluence/files"
	"confluence/record"
)

// TestLogged: one transaction, which has the rows in the order of the copy, and the origin with its position.
func TestLogged(t *testing.T) {
	k := twoTables(t)
	k.logs("begin 3; insert 3 table 2 ('x', 1); insert 3 table 2 ('', null); insert 3 table 1 (5, 'a'); insert 3 table 1 (-3, null); commit 3 from pub at 9000", 4,
		whole(head(eight()), row(8, "x", 1), row(8, "", nil), head(nine()), row(9, 5, "a"), row(9, -3, nil))...)
	k.has("t", "(-3, null) (5, 'a')")
	k.has("u", "('', null) ('x', 1)")
	k = twoTables(t)
	k.logs("begin 3; commit 3 from pub at 9000", 0, whole()...)
	k.logs("begin 4; commit 4 from pub at 9000", 0, whole(head(nine()), head(eight()))...)
	k.logs("begin 5; commit 5 from pub at 1", 0, from(1), to(1))
	k.logs("begin 6; commit 6 from pub at 819208192", 0, from(top), to(top))
}

// TestLasting: what was taken is there behind a crash, with the origin, whatever is cut off.
func TestLasting(t *testing.T) {
	for _, tenths := range []int{0, 5, 10} {
		k := twoTables(t)
		k.imports(4, copyOfTwo()...)
		k.writes("t", r(7, "z"))
		k.crashKeeping(tenths)
		k.has("t", "(1, 'a') (2, null)")
		k.has("u", "('', null) ('x', 1)")
		k.is("the origin", k.s.Origin("pub"), 9000)
		k.refuses(api.ErrCopyThere, copyOfTwo()...)
	}
}

// TestOriginsApart: a copy notes its own origin alone, whatever that was, also below where it was.
func TestOriginsApart(t *testing.T) {
	k := twoTables(t)
	for i, lsn := range []int{9000, 9500, 8192, 1, top} {
		n, e := copying.Import(k.s, "pub", laid(t, from(lsn), head(nine()), to(lsn)))
		k.ok(e)
		m, e := copying.Import(k.s, "other", laid(t, from(100+i), to(100+i)))
		k.ok(e)
		k.is("origins", []int{n, m, k.s.Origin("pub"), k.s.Origin("other"), k.s.Origin("none")}, []int{0, 0, lsn, 100 + i, 0})
	}
	k.put("t", r(1, "a"))
	k.refuses(api.ErrCopyThere, from(7), head(nine()), to(7))
	k.is("origins", []int{k.s.Origin("pub"), k.s.Origin("other")}, []int{top, 104})
}

// TestTwoCopies: copies of two publishers into one store, each with tables of its own.
func TestTwoCopies(t *testing.T) {
	k := twoTables(t)
	k.imports(1, whole(head(nine()), row(9, 1, "a"))...)
	k.refuses(api.ErrCopyThere, copyOfTwo()...)
	n, e := copying.Import(k.s, "other", laid(t, from(100), head(told(9, "u", "id t")), row(9, "x"), to(100)))
	k.ok(e)
	k.is("how many rows", n, 1)
	k.has("t", "(1, 'a')")
	k.has("u", "('x', null)")
	k.is("origins", []int{k.s.Origin("pub"), k.s.Origin("other")}, []int{9000, 100})
}

// TestConflicts: a row that another transaction has written that is open or waits, or has been deleted by it as its own.
func TestConflicts(t *testing.T) {
	for _, waits := range []bool{false, true} {
		k := twoTables(t)
		x := k.writes("t", r(2, "z"), r(5, "z"))
		k.ok(k.s.Delete(x, "t", v(5)))
		if waits {
			k.ok(k.s.Prepare(x, "w"))
		}
		k.fails(api.ErrCopyThere, "begin 4; abort 4", whole(head(nine()), row(9, 2, "b"))...)
		k.fails(api.ErrCopyThere, "begin 5; insert 5 table 1 (1, 'a'); insert 5 table 1 (3, null); abort 5", whole(head(nine()), row(9, 1, "a"), row(9, 3, nil), row(9, 2, "b"), row(9, 4, nil))...)
		k.fails(api.ErrCopyThere, "begin 6; insert 6 table 2 ('x', 1); abort 6", whole(head(eight()), row(8, "x", 1), head(nine()), row(9, 2, nil))...)
		k.fails(api.ErrCopyThere, "begin 7; abort 7", whole(head(nine()), row(9, 5, nil))...)
		// What comes first is told: a conflict, or a row that does not fit.
		k.create("v", 0, "id i", "n i")
		v := told(7, "v", "id i", "n i?")
		k.fails(api.ErrCopyTable, "begin 9; abort 9", whole(head(v), row(7, 1, nil), head(nine()), row(9, 2, nil))...)
		k.fails(api.ErrCopyThere, "begin 10; abort 10", whole(head(nine()), row(9, 2, nil), head(v), row(7, 1, nil))...)
		k.imports(2, whole(head(nine()), row(9, 1, "a"), row(9, 3, nil))...)
		if waits {
			k.ok(k.s.AbortPrepared("w"))
		} else {
			k.ok(k.s.Abort(x))
		}
		k.has("t", "(1, 'a') (3, null)")
	}
	k := twoTables(t)
	x := k.writes("t", r(2, "z"))
	k.ok(k.s.Abort(x))
	k.imports(1, whole(head(nine()), row(9, 2, "b"))...)
}

// TestFailedAgain: what was refused may be taken as soon as nothing is in its way.
func TestFailedAgain(t *testing.T) {
	k := twoTables(t)
	x := k.writes("u", r("x", 7))
	for range 3 {
		if n, e := copying.Import(k.s, "pub", laid(t, copyOfTwo()...)); n != 0 || e != api.ErrCopyThere {
			t.Errorf("Import: %d, %d", n, e)
		}
		k.has("t", "")
		k.has("u", "")
		k.is("who is open", k.s.Active(), []int{x})
		k.is("the origin", k.s.Origin("pub"), 0)
	}
	k.ok(k.s.Abort(x))
	k.imports(4, copyOfTwo()...)
	k.has("t", "(1, 'a') (2, null)")
}

// TestBesideOthers: who has begun ahead of a copy does not see it; what is open of others stays open.
func TestBesideOthers(t *testing.T) {
	k := twoTables(t)
	x := k.begins()
	y := k.writes("t", r(7, "g"))
	k.imports(4, copyOfTwo()...)
	if _, e := k.s.Get(x, "t", v(1)); e != api.ErrRowNone {
		t.Errorf("Get: %d", e)
	}
	k.is("a write of a row of the copy", k.s.Insert(y, "t", r(1, "z")), api.ErrRowConflict)
	k.is("who is open", k.s.Active(), []int{x, y})
	_, e := k.s.Commit(y)
	k.ok(e)
	k.has("t", "(1, 'a') (2, null) (7, 'g')")
}

// TestStoreMany: no room for another transaction: that is told behind all that the copy and the tables say.
func TestStoreMany(t *testing.T) {
	k := twoTables(t)
	var open []int
	for range api.MaxOpen {
		open = append(open, k.begins())
	}
	l := whole(head(nine()), row(9, 1, "a"))
	k.refuses(api.ErrStoreMany, l...)
	k.refuses(api.ErrStoreMany, whole()...)
	k.refuses(api.ErrCopyForm, l[1:]...)
	k.refuses(api.ErrCopyTable, whole(head(told(9, "none", "id i")))...)
	k.ok(k.s.Prepare(open[0], "w"))
	k.refuses(api.ErrStoreMany, l...)
	k.ok(k.s.Insert(open[1], "t", r(2, "b")))
	_, e := k.s.Commit(open[1])
	k.ok(e)
	k.refuses(api.ErrCopyThere, l...)
	k.imports(0, whole()...)
	k.imports(1, whole(head(eight()), row(8, "x", 1))...)
	k.begins()
	k.refuses(api.ErrCopyThere, l...)
	k.refuses(api.ErrStoreMany, whole()...)
}

// lateDesk is a store without tables that gives just so many numbers more.
func lateDesk(t *testing.T, left int) *desk {
	t.Helper()
	w := code.NewWriter()
	w.Raw("CB")
	w.Var(8192)
	w.Var(0)
	w.Var(0)
	start, _ := w.Done()
	checkpoint, e := record.Encode(api.Rec{Kind: api.RecCheckpoint, Xid: last + 1 - left, Table: 1})
	if e != api.OK {
		t.Fatalf("Encode: %d", e)
	}
	base := ""
	for _, p := range []string{start, checkpoint} {
		frame, _ := code.Frame(p)
		base += frame
	}
	d, e := files.Load(room, []api.File{{Name: "base", Bytes: base}, {Name: "wal.000001"}})
	if e != api.OK {
		t.Fatalf("Load: %d", e)
	}
	return on(t, d)
}

// TestXactLast: no number is left.
func TestXactLast(t *testing.T) {
	k := lateDesk(t, 3)
	k.create("t", 0, "id i", "name t?")
	k.create("u", 0, "id t", "n i?")
	k.logs("begin 2147483647; insert 2147483647 table 1 (1, 'a'); commit 2147483647 from pub at 9000", 1, whole(head(nine()), row(9, 1, "a"))...)
	for range 2 {
		k.refuses(api.ErrXactLast, whole()...)
		k.refuses(api.ErrXactLast, whole(head(eight()), row(8, "x", 1))...)
		k.refuses(api.ErrCopyThere, whole(head(nine()))...)
		k.refuses(api.ErrCopyForm)
		k.exports(all("t"), "from t.1.1(id*, name) 1(1, 'a') to")
		k.crash()
	}
	k.is("the origin", k.s.Origin("pub"), 9000)
}

// TestRound: a copy of a store, taken into another one and told again there, is the same but for positions, numbers and versions.
func TestRound(t *testing.T) {
	k := newDesk(t, r(1, "a"), r(2, nil), r(-3, full))
	k.create("u", 2, "n i?", "flag b?", "id t")
	k.put("u", r(1, true, "x"), r(nil, nil, ""), r(-9223372036854775808, false, "\x00\xff"))
	l, lsn, e := copying.Export(k.s, all("u", "t"))
	k.ok(e)
	x := bare(t)
	x.create("u", 2, "n i?", "flag b?", "id t")
	x.create("t", 0, "id i", "name t?")
	n, e := copying.Import(x.s, "pub", l)
	x.ok(e)
	x.is("how many rows", fmt.Sprint(n, x.s.Origin("pub")), fmt.Sprint(6, lsn))
	for _, name := range []string{"t", "u"} {
		x.has(name, k.rows(name))
	}
	again, _, e := copying.Export(x.s, all("u", "t"))
	x.ok(e)
	x.is("how many messages", len(again), len(l))
	y := bare(t)
	y.create("t", 0, "id i", "name t?")
	y.create("u", 2, "n i?", "flag b?", "id t")
	n, e = copying.Import(y.s, "pub", again)
	y.ok(e)
	y.is("how many rows", n, 6)
	for _, name := range []string{"t", "u"} {
		y.has(name, k.rows(name))
	}
}
