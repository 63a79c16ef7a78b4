package store_test

import (
	"fmt"
	"math"
	"strings"
	"testing"

	"confluence/api"
)

// nobody are numbers of no active transaction, on a desk where 3 alone is active.
var nobody = []int{0, 1, 2, 4, 5, -1, -2, math.MinInt, math.MaxInt, 1<<32 + 2, lastXid, lastXid + 1}

func TestS4Begin(t *testing.T) {
	k := newDesk(t)
	k.is("Begin", k.begin(), 2)
	k.logged("begin 2")
	k.lasts(false)
	k.ok(k.s.Savepoint(2, "a"))
	k.is("Begin", k.begin(), 4)
	k.is("Active", k.s.Active(), []int{2, 4})
	// What it sees is what was committed when it began.
	k.ok(k.s.Insert(2, "t", r(1, "a")))
	k.commit(2)
	k.sees(4, "")
	x := k.begin()
	k.sees(x, "(1, 'a')")
	k.is("Active", k.s.Active(), []int{4, 5})
}

func TestS4Many(t *testing.T) {
	k := newDesk(t)
	for i := range 32 {
		k.is("Begin", k.begin(), 2+i)
	}
	k.seen = k.s.Log().End()
	k.refused("a 33rd", api.ErrStoreMany)(k.s.Begin())
	k.ok(k.s.Prepare(9, "w"))
	k.refused("a 33rd, as one waits", api.ErrStoreMany)(k.s.Begin())
	k.logged("prepare 9 as w")
	k.crash()
	for range 31 {
		k.begin()
	}
	k.refused("a 33rd behind a crash", api.ErrStoreMany)(k.s.Begin())
	k.ok(k.s.AbortPrepared("w"))
	x := k.begin()
	k.refused("a 33rd", api.ErrStoreMany)(k.s.Begin())
	k.ok(k.s.Abort(x))
	k.begin()
	// Changes of tables have numbers, and are over at once.
	_, e := k.s.CreateTable("u", two, 0)
	k.ok(e)
}

// atNumber is a store whose next number is this; it has the table t, with the row 1.
func atNumber(t *testing.T, next int) *desk {
	t.Helper()
	k := &desk{t: t, d: baseOf(8192, checks(next, 2, narrow), nil, []line{{1, r(1, "a")}}).disk(t)}
	k.open()
	return k
}

func TestS4Last(t *testing.T) {
	k := atNumber(t, lastXid)
	k.is("Begin", k.begin(), lastXid)
	k.seen = k.s.Log().End()
	k.refused("Begin", api.ErrXactLast)(k.s.Begin())
	k.is("Savepoint", k.s.Savepoint(lastXid, "a"), api.ErrXactLast)
	k.refused("CreateTable", api.ErrXactLast)(k.s.CreateTable("u", two, 0))
	k.refused("CreateTable of one that is there", api.ErrTableThere)(k.s.CreateTable("t", two, 0))
	k.refused("DropTable", api.ErrXactLast)(k.s.DropTable("t"))
	k.refused("DropTable of none", api.ErrTableNone)(k.s.DropTable("u"))
	k.refused("EmptyTable", api.ErrXactLast)(k.s.EmptyTable("t"))
	k.refused("WidenTable", api.ErrXactLast)(k.s.WidenTable("t", more))
	k.refused("WidenTable by a column that is there", api.ErrColumnThere)(k.s.WidenTable("t", two[1]))
	k.logged()
	k.is("Tables", len(k.s.Tables()), 1)
	k.is("its version", k.s.Tables()[0].Version, 1)
	k.sees(0, "(1, 'a')")
	k.ok(k.s.Insert(lastXid, "t", r(2)))
	k.refused("DropTable of what is written", api.ErrStoreWritten)(k.s.DropTable("t"))
	k.refused("EmptyTable of what is written", api.ErrStoreWritten)(k.s.EmptyTable("t"))
	k.refused("WidenTable of what is written", api.ErrStoreWritten)(k.s.WidenTable("t", more))
	k.commit(lastXid)
	k.crash()
	k.sees(0, "(1, 'a') (2, null)")
	at, e := k.s.Checkpoint()
	k.ok(e)
	k.is("the checkpoint", k.at(at), "checkpoint next 2147483648 table 2 t 1.1 (id int, name text null) key id")
	k.crash()
	k.refused("Begin", api.ErrXactLast)(k.s.Begin())
	k.sees(0, "(1, 'a') (2, null)")
	// 32 transactions are told ahead of the last number.
	k = atNumber(t, lastXid-31)
	for range 32 {
		k.begin()
	}
	k.refused("Begin", api.ErrStoreMany)(k.s.Begin())
	// A savepoint has the last number, and can't be gone back to: nothing is changed then.
	k = atNumber(t, lastXid-1)
	x := k.begin()
	k.ok(k.s.Savepoint(x, "a"), k.s.Insert(x, "t", r(2)))
	k.seen = k.s.Log().End()
	k.is("RollbackTo", k.s.RollbackTo(x, "a"), api.ErrXactLast)
	k.logged()
	k.sees(x, "(1, 'a') (2, null)")
	k.ok(k.s.Release(x, "a"))
	k.commit(x)
}

// TestS11Last: no number of tables is left, nor a version.
func TestS11Last(t *testing.T) {
	last := table(lastXid, lastXid, "t", two, 0)
	k := &desk{t: t, d: baseOf(8192, checks(5, lastXid+1, last), nil, nil).disk(t)}
	k.open()
	k.refused("CreateTable", api.ErrTableMany)(k.s.CreateTable("u", two, 0))
	k.refused("WidenTable", api.ErrArg)(k.s.WidenTable("t", more))
	k.logged()
	_, e := k.s.DropTable("t")
	k.ok(e)
	k.refused("CreateTable", api.ErrTableMany)(k.s.CreateTable("u", two, 0))
	k.logged("drop 5 table 2147483647")
	k.crash()
	k.is("Tables", len(k.s.Tables()), 0)
}

func TestS5Writes(t *testing.T) {
	k := newDesk(t)
	k.begin()
	k.begin()
	k.seen = k.s.Log().End()
	k.ok(k.s.Insert(2, "t", r(5, "a")), k.s.Insert(2, "t", r(-1)), k.s.Insert(3, "t", r(6, nil)))
	k.logged("insert 2 table 1 (5, 'a')", "insert 2 table 1 (-1, null)", "insert 3 table 1 (6, null)")
	k.ok(k.s.Update(2, "t", r(5, "b")), k.s.Update(2, "t", r(5)), k.s.Delete(2, "t", v(5)))
	k.logged("update 2 table 1 (5, 'a') to (5, 'b')", "update 2 table 1 (5, 'b') to (5, null)", "delete 2 table 1 (5, null)")
	k.lasts(false)
	k.sees(2, "(-1, null)")
	k.sees(3, "(6, null)")
	k.sees(0, "")
	k.is("Insert of what is there", k.s.Insert(2, "t", r(-1)), api.ErrRowThere)
	k.is("Insert of another's", k.s.Insert(2, "t", r(6)), api.ErrRowConflict)
	k.is("Update of another's", k.s.Update(2, "t", r(6)), api.ErrRowConflict)
	k.is("Delete of another's", k.s.Delete(2, "t", v(6)), api.ErrRowConflict)
	k.is("Update of none", k.s.Update(2, "t", r(7)), api.ErrRowNone)
	k.is("Delete of none", k.s.Delete(2, "t", v(7)), api.ErrRowNone)
	k.is("Update of one's own that is gone", k.s.Update(2, "t", r(5)), api.ErrRowNone)
	k.is("Update of another's that was deleted", k.s.Update(3, "t", r(5)), api.ErrRowConflict)
	k.logged()
	k.ok(k.s.Insert(2, "t", r(5, "c")))
	k.commit(2)
	k.is("Insert of what was committed later", k.s.Insert(3, "t", r(5)), api.ErrRowConflict)
	k.is("Update of what was committed later", k.s.Update(3, "t", r(-1)), api.ErrRowConflict)
	k.is("Delete of what was committed later", k.s.Delete(3, "t", v(-1)), api.ErrRowConflict)
	k.commit(3)
	k.sees(0, "(-1, null) (5, 'c') (6, null)")
}

// TestS5Order: of several errors the one that is named first.
func TestS5Order(t *testing.T) {
	k := newDesk(t)
	k.put(9, "z")
	k.begin() // 3
	k.begin() // 4
	k.ok(k.s.Insert(3, "t", r(1, "a")), k.s.Abort(4))
	k.seen = k.s.Log().End()
	bad := []api.Row{nil, r(nil), r("x"), r(true), r(1, 2), r(1, true), r(1, "a", nil), r(1, strings.Repeat("x", 201)),
		{{Kind: 9}}, {{Kind: api.Int, N: 1, S: "x"}}, {{Kind: api.Int, N: 1}, {Kind: api.Text, N: 1}}, make(api.Row, 9)}
	badKeys := []api.Value{{}, v("x"), v(true), v(false), {Kind: 9}, {Kind: -1}, {Kind: api.Int, S: "x"}, {Kind: api.Text, S: strings.Repeat("x", 201)}}
	for _, x := range nobody {
		for _, row := range append(bad, r(1), r(9)) {
			for _, name := range []string{"t", "none", ""} {
				k.is("Insert of nobody", k.s.Insert(x, name, row), api.ErrStoreNone)
				k.is("Update of nobody", k.s.Update(x, name, row), api.ErrStoreNone)
				k.is("Delete of nobody", k.s.Delete(x, name, v(row)), api.ErrStoreNone)
			}
		}
	}
	for _, name := range append([]string{"none", "T", "tt"}, odd...) {
		for _, row := range append(bad, r(1)) {
			k.is("Insert into no table", k.s.Insert(3, name, row), api.ErrTableNone)
			k.is("Update of no table", k.s.Update(3, name, row), api.ErrTableNone)
		}
		for _, key := range append(badKeys, v(1)) {
			k.is("Delete of no table", k.s.Delete(3, name, key), api.ErrTableNone)
			k.is("Get of no table", k.get(3, name, key), int(api.ErrTableNone))
			k.is("Get of no table", k.get(0, name, key), int(api.ErrTableNone))
			k.is("Get of nobody and no table", k.get(4, name, key), int(api.ErrStoreNone))
		}
		k.is("Scan of no table", k.rows(3, name)+k.rows(0, name), "")
	}
	for _, row := range bad {
		k.is(fmt.Sprint("Insert of ", row), k.s.Insert(3, "t", row), api.ErrRowFit)
		k.is(fmt.Sprint("Update by ", row), k.s.Update(3, "t", row), api.ErrRowFit)
	}
	for _, key := range badKeys {
		k.is(fmt.Sprint("Delete of ", key), k.s.Delete(3, "t", key), api.ErrRowFit)
		k.is(fmt.Sprint("Get of ", key), k.get(3, "t", key), int(api.ErrRowFit))
		k.is(fmt.Sprint("Get of ", key), k.get(0, "t", key), int(api.ErrRowFit))
		k.is("Get of nobody", k.get(4, "t", key), int(api.ErrStoreNone))
	}
	k.logged()
	k.sees(3, "(1, 'a') (9, 'z')")
}

// TestS5Keys: of either kind, at any place among the columns; rows stand by rising keys.
func TestS5Keys(t *testing.T) {
	k := bare(t)
	_, e := k.s.CreateTable("t", []api.Column{{Name: "a", Kind: api.Bool, Null: true}, {Name: "b", Kind: api.Int, Null: true}, {Name: "k", Kind: api.Text}}, 2)
	k.ok(e)
	x := k.begin()
	for i, key := range []string{"b", "", "aa", "\xff", "a", "\x00", "ab"} {
		k.ok(k.s.Insert(x, "t", r(nil, i, key)))
	}
	k.is("Scan", k.rows(x, "t"), `(null, 1, '') (null, 5, '\00') (null, 4, 'a') (null, 2, 'aa') (null, 6, 'ab') (null, 0, 'b') (null, 3, '\ff')`)
	k.is("a short row has no key", k.s.Insert(x, "t", r(true, 1)), api.ErrRowFit)
	k.seen = k.s.Log().End()
	k.ok(k.s.Delete(x, "t", v("aa")), k.s.Update(x, "t", r(true, nil, "a")))
	k.logged("delete 2 table 1 (null, 2, 'aa')", "update 2 table 1 (null, 4, 'a') to (true, null, 'a')")
	k.is("Get", k.get(x, "t", "a"), "(true, null, 'a')")
	k.is("Get of an Int", k.get(x, "t", 1), int(api.ErrRowFit))
	k.is("Delete of an Int", k.s.Delete(x, "t", v(1)), api.ErrRowFit)
	k = newDesk(t)
	x = k.begin()
	for _, n := range []int{5, -5, 0, math.MaxInt, math.MinInt, 256, -1} {
		k.ok(k.s.Insert(x, "t", r(n)))
	}
	k.commit(x)
	want := fmt.Sprintf("(%d, null) (-5, null) (-1, null) (0, null) (5, null) (256, null) (%d, null)", math.MinInt, math.MaxInt)
	k.sees(0, want)
	k.crash()
	k.sees(0, want)
}

func TestS6Get(t *testing.T) {
	k := newDesk(t)
	k.put(1, "a")
	x := k.begin()
	k.put(2, "b")
	k.is("Get of what is committed later", k.get(x, "t", 2), int(api.ErrRowNone))
	k.is("Get by 0", k.get(0, "t", 2), "(2, 'b')")
	k.is("Get of none", k.get(0, "t", 3), int(api.ErrRowNone))
	k.ok(k.s.Delete(x, "t", v(1)), k.s.Insert(x, "t", r(3)))
	k.is("Get of one's own that is gone", k.get(x, "t", 1), int(api.ErrRowNone))
	k.is("Get by 0 of what is not committed", k.get(0, "t", 3), int(api.ErrRowNone))
	k.is("Get by 0", k.get(0, "t", 1), "(1, 'a')")
	k.is("Get of one's own", k.get(x, "t", 3), "(3, null)")
	for _, n := range []int{1, 2, 4, 5, 7, -1, math.MinInt, math.MaxInt} {
		k.is("Get by nobody", k.get(n, "t", 1), int(api.ErrStoreNone))
		k.is("Scan by nobody", k.rows(n, "t"), "")
	}
	k.ok(k.s.Prepare(x, "w"))
	k.is("Get by one that waits", k.get(x, "t", 1), int(api.ErrStoreNone))
	k.is("Scan by one that waits", k.rows(x, "t"), "")
	k.sees(0, "(1, 'a') (2, 'b')")
	k.seen = k.s.Log().End()
	k.sees(0, "(1, 'a') (2, 'b')")
	k.logged()
	y := k.begin()
	k.commit(y)
	k.is("Get by one that is over", k.get(y, "t", 1), int(api.ErrStoreNone))
	k.is("Scan by one that is over", k.rows(y, "t"), "")
}

// TestS6Scan: it reads when it is gone over, may be left early, and gone over again, also within a loop over itself.
func TestS6Scan(t *testing.T) {
	k := newDesk(t)
	x := k.begin()
	for n := range 10 {
		k.ok(k.s.Insert(x, "t", r(n)))
	}
	own, all, later, none := k.s.Scan(x, "t"), k.s.Scan(0, "t"), k.s.Scan(x+1, "t"), k.s.Scan(0, "u")
	count := func(seq func(func(api.Row) bool)) int {
		n := 0
		for range seq {
			n++
		}
		return n
	}
	k.is("own, all, later, none", fmt.Sprint(count(own), count(all), count(later), count(none)), "10 0 0 0")
	n := 0
	for row := range own {
		if n++; n == 4 {
			k.is("the fourth", rowText(row), "(3, null)")
			break
		}
	}
	k.is("it was left", n, 4)
	pairs := 0
	for a := range own {
		for b := range own {
			if b[0].N > a[0].N {
				break
			}
			pairs++
		}
	}
	k.is("pairs", pairs, 55)
	k.commit(x)
	k.begin()
	_, e := k.s.CreateTable("u", two, 0)
	k.ok(e)
	k.ok(k.s.Insert(x+1, "u", r(1)))
	k.commit(x + 1)
	y := k.begin()
	k.ok(k.s.Delete(y, "t", v(3)))
	k.commit(y)
	k.is("behind all that", fmt.Sprint(count(own), count(all), count(later), count(none)), "0 9 0 1")
}

// TestS6Widened: rows are told as the table is now, also to who began ahead of that, and in conflict with nobody.
func TestS6Widened(t *testing.T) {
	k := newDesk(t)
	k.put(1, "a")
	x := k.begin()
	_, e := k.s.WidenTable("t", more)
	k.ok(e)
	k.sees(x, "(1, 'a', null)")
	k.sees(0, "(1, 'a', null)")
	k.seen = k.s.Log().End()
	k.ok(k.s.Update(x, "t", r(1, "b", true)), k.s.Insert(x, "t", r(2)), k.s.Update(x, "t", r(1)), k.s.Delete(x, "t", v(1)))
	k.logged("update 3 table 1 (1, 'a', null) to (1, 'b', true)", "insert 3 table 1 (2, null, null)", "update 3 table 1 (1, 'b', true) to (1, null, null)", "delete 3 table 1 (1, null, null)")
	k.commit(x)
	k.crash()
	k.sees(0, "(2, null, null)")
}

// TestS5Writer: a row is written by the innermost part.
func TestS5Writer(t *testing.T) {
	k := newDesk(t)
	k.begin()
	k.ok(k.s.Insert(2, "t", r(1)), k.s.Savepoint(2, "a"), k.s.Insert(2, "t", r(2)), k.s.Savepoint(2, "b"), k.s.Update(2, "t", r(1, "x")), k.s.Delete(2, "t", v(2)))
	k.ok(k.s.Release(2, "b"), k.s.Insert(2, "t", r(3)), k.s.Release(2, "a"), k.s.Insert(2, "t", r(4)))
	k.logged("begin 2", "insert 2 table 1 (1, null)", "part 3 of 2", "insert 3 table 1 (2, null)", "part 4 of 3", "update 4 table 1 (1, null) to (1, 'x')", "delete 4 table 1 (2, null)",
		"release 4", "insert 3 table 1 (3, null)", "release 3", "insert 2 table 1 (4, null)")
	k.sees(2, "(1, 'x') (3, null) (4, null)")
}
