package store_test

import (
	"fmt"
	"math"
	"testing"

	"confluence/api"
)

func TestS8Commit(t *testing.T) {
	k := newDesk(t)
	k.begin()
	k.begin()
	k.ok(k.s.Insert(2, "t", r(1, "a")), k.s.Insert(3, "t", r(2, "b")))
	at := k.commit(2)
	k.is("at its position", k.at(at), "commit 2")
	k.logged("begin 2", "begin 3", "insert 2 table 1 (1, 'a')", "insert 3 table 1 (2, 'b')", "commit 2")
	k.lasts(true)
	k.is("Active", k.s.Active(), []int{3})
	k.sees(0, "(1, 'a')")
	k.refused("Commit of what is over", api.ErrStoreNone)(k.s.Commit(2))
	k.is("Abort of what is over", k.s.Abort(2), api.ErrStoreNone)
	k.crash()
	k.sees(0, "(1, 'a')")
	// one without a change has a commit, too
	x := k.begin()
	k.is("at its position", k.at(k.commit(x)), fmt.Sprint("commit ", x))
	k.lasts(true)
}

func TestS8From(t *testing.T) {
	k := newDesk(t)
	for range 5 {
		k.begin()
	}
	k.seen = k.s.Log().End()
	for i, o := range []origin{{"pub", 9000}, {"pub", 1}, {"a", lastPosition}, {"abcdefghijklmnop", 8192}} {
		at, e := k.s.CommitFrom(2+i, o.name, o.lsn)
		k.ok(e)
		want := fmt.Sprintf("commit %d from %s at %d", 2+i, o.name, o.lsn)
		k.is("at its position", k.at(at), want)
		k.logged(want)
		k.lasts(true)
		k.is("Origin", k.s.Origin(o.name), o.lsn)
	}
	at, e := k.s.CommitFrom(6, "", 0)
	k.ok(e)
	k.is("at its position", k.at(at), "commit 6")
	origins := func() string {
		return fmt.Sprint(k.s.Origin("pub"), k.s.Origin("a"), k.s.Origin("abcdefghijklmnop"), k.s.Origin(""), k.s.Origin("b"), k.s.Origin("PUB"))
	}
	k.is("origins", origins(), "1 819208192 8192 0 0 0")
	k.crash()
	k.is("origins", origins(), "1 819208192 8192 0 0 0")
	_, e = k.s.Checkpoint()
	k.ok(e)
	k.crash()
	k.is("origins", origins(), "1 819208192 8192 0 0 0")
}

func TestS8Order(t *testing.T) {
	k := newDesk(t)
	k.begin()
	k.seen = k.s.Log().End()
	for _, x := range []int{2, 9, 0, -1} {
		for _, lsn := range []int{0, -1, lastPosition + 1, math.MaxInt, math.MinInt} {
			k.refused(fmt.Sprintf("CommitFrom(%d, pub, %d)", x, lsn), api.ErrArg)(k.s.CommitFrom(x, "pub", lsn))
		}
		for _, lsn := range []int{1, -1, 8192, lastPosition, lastPosition + 1} {
			k.refused(fmt.Sprintf("CommitFrom(%d, nothing, %d)", x, lsn), api.ErrArg)(k.s.CommitFrom(x, "", lsn))
		}
		for _, name := range odd[1:] {
			k.refused(fmt.Sprintf("CommitFrom(%d, %q, 1)", x, name), api.ErrArg)(k.s.CommitFrom(x, name, 1))
			k.refused(fmt.Sprintf("CommitFrom(%d, %q, 0)", x, name), api.ErrArg)(k.s.CommitFrom(x, name, 0))
		}
	}
	k.ok(k.s.Savepoint(2, "a"))
	k.begin()
	k.ok(k.s.Prepare(4, "w"))
	k.seen = k.s.Log().End()
	for _, x := range []int{0, 1, 3, 4, 5, -1, lastXid, math.MaxInt, math.MinInt} {
		k.refused("Commit of nobody", api.ErrStoreNone)(k.s.Commit(x))
		k.refused("CommitFrom of nobody", api.ErrStoreNone)(k.s.CommitFrom(x, "pub", 1))
		k.is("Abort of nobody", k.s.Abort(x), api.ErrStoreNone)
	}
	k.logged()
	k.is("Origin", k.s.Origin("pub"), 0)
	k.is("Active", k.s.Active(), []int{2})
}

func TestS8Abort(t *testing.T) {
	k := newDesk(t)
	k.put(1, "a")
	x := k.begin()
	k.ok(k.s.Update(x, "t", r(1, "b")), k.s.Insert(x, "t", r(2)))
	k.seen = k.s.Log().End()
	k.ok(k.s.Abort(x))
	k.logged(fmt.Sprint("abort ", x))
	k.lasts(false)
	k.sees(0, "(1, 'a')")
	k.is("Active", len(k.s.Active()), 0)
	y := k.begin()
	k.ok(k.s.Update(y, "t", r(1, "c")), k.s.Insert(y, "t", r(2)))
	k.commit(y)
	k.crash()
	k.sees(0, "(1, 'c') (2, null)")
}

func TestS9Prepare(t *testing.T) {
	k := newDesk(t)
	k.put(1, "a")
	for range 3 {
		k.begin()
	}
	k.ok(k.s.Update(3, "t", r(1, "b")), k.s.Savepoint(3, "s"), k.s.Insert(3, "t", r(2)))
	k.seen = k.s.Log().End()
	k.ok(k.s.Prepare(3, "w"))
	k.logged("prepare 3 as w")
	k.lasts(true)
	k.is("Prepared", k.s.Prepared(), []string{"w"})
	k.is("Active", k.s.Active(), []int{4, 5})
	k.is("a second of that name", k.s.Prepare(4, "w"), api.ErrStoreThere)
	k.logged()
	k.ok(k.s.Prepare(4, "v"), k.s.Prepare(5, "abcdefghijklmnop"))
	k.is("Prepared", k.s.Prepared(), []string{"abcdefghijklmnop", "v", "w"})
	// It is active no more, for any call.
	for _, e := range []api.Errno{k.s.Insert(3, "t", r(9)), k.s.Update(3, "t", r(1)), k.s.Delete(3, "t", v(1)), k.s.Savepoint(3, "a"),
		k.s.RollbackTo(3, "s"), k.s.Release(3, "s"), k.s.Abort(3), k.s.Prepare(3, "u")} {
		k.is("a call of one that waits", e, api.ErrStoreNone)
	}
	k.refused("Commit of one that waits", api.ErrStoreNone)(k.s.Commit(3))
	for range 2 {
		k.sees(0, "(1, 'a')")
		x := k.begin()
		k.is("Update of what one wrote that waits", k.s.Update(x, "t", r(1)), api.ErrRowConflict)
		k.is("Insert of what one wrote that waits", k.s.Insert(x, "t", r(2)), api.ErrRowConflict)
		k.is("Prepared", k.s.Prepared(), []string{"abcdefghijklmnop", "v", "w"})
		k.crash()
	}
	k.seen = k.s.Log().End()
	at, e := k.s.CommitPrepared("w")
	k.ok(e)
	k.is("at its position", k.at(at), "commit 3")
	k.lasts(true)
	k.sees(0, "(1, 'b') (2, null)")
	k.ok(k.s.AbortPrepared("v"))
	k.logged("commit 3", "abort 4")
	k.lasts(true)
	k.is("Prepared", k.s.Prepared(), []string{"abcdefghijklmnop"})
	k.refused("CommitPrepared again", api.ErrStoreName)(k.s.CommitPrepared("w"))
	k.is("AbortPrepared again", k.s.AbortPrepared("v"), api.ErrStoreName)
	k.crash()
	k.is("Prepared", k.s.Prepared(), []string{"abcdefghijklmnop"})
	k.sees(0, "(1, 'b') (2, null)")
	// A name that is free again
	x := k.begin()
	k.ok(k.s.Prepare(x, "w"), k.s.AbortPrepared("w"))
}

func TestS9Order(t *testing.T) {
	k := newDesk(t)
	k.begin()
	k.begin()
	k.ok(k.s.Prepare(2, "w"))
	k.seen = k.s.Log().End()
	for _, name := range odd {
		for _, x := range []int{2, 3, 9, 0, -1} {
			k.is(fmt.Sprintf("Prepare(%d, %q)", x, name), k.s.Prepare(x, name), api.ErrArg)
		}
		k.refused(fmt.Sprintf("CommitPrepared(%q)", name), api.ErrStoreName)(k.s.CommitPrepared(name))
		k.is(fmt.Sprintf("AbortPrepared(%q)", name), k.s.AbortPrepared(name), api.ErrStoreName)
	}
	for _, x := range []int{0, 1, 2, 4, -1, lastXid} {
		k.is("Prepare of nobody", k.s.Prepare(x, "w"), api.ErrStoreNone)
		k.is("Prepare of nobody", k.s.Prepare(x, "v"), api.ErrStoreNone)
	}
	k.is("a name that is taken", k.s.Prepare(3, "w"), api.ErrStoreThere)
	k.refused("CommitPrepared of no name", api.ErrStoreName)(k.s.CommitPrepared("v"))
	k.logged()
	k.is("Prepared and Active", fmt.Sprint(k.s.Prepared(), k.s.Active()), "[w] [3]")
}
