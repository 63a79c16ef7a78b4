package store_test

import (
	"testing"

	"confluence/api"
	"confluence/files"
	"confluence/store"
)

// TestExamples: those of the chapter, word for word.
func TestExamples(t *testing.T) {
	d, _ := files.New(1000000)
	k := &desk{t: t, d: d}
	k.ok(store.Format(d))
	k.open()
	_, e := k.s.CreateTable("t", two, 0)
	k.ok(e)
	k.is("Begin", k.begin(), 2)
	k.ok(k.s.Insert(2, "t", r(1, "a")), k.s.Savepoint(2, "s"))
	k.ok(k.s.Insert(2, "t", r(2)), k.s.RollbackTo(2, "s"), k.s.Insert(2, "t", r(3, "c")))
	k.logged("create 1 t 1.1 (id int, name text null) key id", "begin 2", "insert 2 table 1 (1, 'a')", "part 3 of 2", "insert 3 table 1 (2, null)", "back 3", "part 4 of 2", "insert 4 table 1 (3, 'c')")
	k.is("Get(2, t, 2)", k.get(2, "t", 2), int(api.ErrRowNone))
	k.is("Begin", k.begin(), 5)
	k.sees(5, "")
	k.is("Insert(5, t, {1, 'x'})", k.s.Insert(5, "t", r(1, "x")), api.ErrRowConflict)
	at := k.commit(2)
	k.is("its position", k.at(at), "commit 2")
	k.is("Get(5, t, 1)", k.get(5, "t", 1), int(api.ErrRowNone))
	k.is("Get(0, t, 1)", k.get(0, "t", 1), "(1, 'a')")

	k.ok(k.s.Prepare(5, "w"))
	k.crash()
	k.is("Prepared", k.s.Prepared(), []string{"w"})
	k.is("Active", len(k.s.Active()), 0)
	k.refused("Checkpoint", api.ErrStoreBusy)(k.s.Checkpoint())
	k.ok(k.s.AbortPrepared("w"))
	_, e = k.s.Checkpoint()
	k.ok(e)
	_, e = k.s.Trim(1000000)
	k.ok(e)

	x := k.begin()
	k.ok(k.s.Insert(x, "t", r(7, "d")))
	k.ok(d.FailSync(1))
	k.refused("Commit", api.ErrStoreDoubt)(k.s.Commit(x))
	k.refused("Begin", api.ErrStoreDoubt)(k.s.Begin())
	k.open()
	k.sees(0, "(1, 'a') (3, 'c') (7, 'd')")
}

// TestExamplesOfTheWhole: of DOC.md, as far as they are a store's.
func TestExamplesOfTheWhole(t *testing.T) {
	k := newDesk(t)
	one := k.begin()
	k.ok(k.s.Insert(one, "t", r(1)))
	two := k.begin()
	k.ok(k.s.Insert(two, "t", r(2)))
	second := k.commit(two)
	k.ok(k.s.Savepoint(one, "s"), k.s.Insert(one, "t", r(3)), k.s.RollbackTo(one, "s"), k.s.Insert(one, "t", r(4)))
	if first := k.commit(one); first <= second {
		t.Errorf("the commits stand at %d and %d", second, first)
	}
	k.sees(0, "(1, null) (2, null) (4, null)")

	k.put(5, "old")
	reader := k.begin()
	k.is("the row 5", k.get(reader, "t", 5), "(5, 'old')")
	writer := k.begin()
	k.ok(k.s.Update(writer, "t", r(5, "new")))
	k.commit(writer)
	k.is("the row 5", k.get(reader, "t", 5), "(5, 'old')")
	k.is("an update of it", k.s.Update(reader, "t", r(5, "mine")), api.ErrRowConflict)

	waits := k.begin()
	k.ok(k.s.Insert(waits, "t", r(6)), k.s.Prepare(waits, "w"))
	k.crash()
	k.is("Prepared", k.s.Prepared(), []string{"w"})
	k.is("the row 6", k.get(0, "t", 6), int(api.ErrRowNone))
	_, e := k.s.CommitPrepared("w")
	k.ok(e)
	k.sees(0, "(1, null) (2, null) (4, null) (5, 'new') (6, null)")
}
