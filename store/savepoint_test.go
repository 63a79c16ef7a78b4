package store_test

import (
	"fmt"
	"testing"

	"confluence/api"
)

func TestS7Savepoint(t *testing.T) {
	k := newDesk(t)
	k.begin()
	k.ok(k.s.Savepoint(2, "a"), k.s.Savepoint(2, "b"), k.s.Savepoint(2, "a"))
	k.logged("begin 2", "part 3 of 2", "part 4 of 3", "part 5 of 4")
	k.lasts(false)
	k.is("Begin", k.begin(), 6)
	k.ok(k.s.Savepoint(6, "a"))
	k.logged("begin 6", "part 7 of 6")
}

func TestS7RollbackTo(t *testing.T) {
	k := newDesk(t)
	k.begin()
	k.ok(k.s.Insert(2, "t", r(1)), k.s.Savepoint(2, "a"), k.s.Insert(2, "t", r(2)), k.s.Savepoint(2, "b"), k.s.Insert(2, "t", r(3)), k.s.Savepoint(2, "c"), k.s.Insert(2, "t", r(4)))
	k.seen = k.s.Log().End()
	k.ok(k.s.RollbackTo(2, "b"))
	k.logged("back 4", "part 6 of 3")
	k.lasts(false)
	k.sees(2, "(1, null) (2, null)")
	k.is("a savepoint behind it", k.s.RollbackTo(2, "c"), api.ErrStoreName)
	k.ok(k.s.Insert(2, "t", r(4)), k.s.RollbackTo(2, "b"))
	k.logged("insert 6 table 1 (4, null)", "back 6", "part 7 of 3")
	k.ok(k.s.Insert(2, "t", r(3, "x")), k.s.RollbackTo(2, "a"))
	k.logged("insert 7 table 1 (3, 'x')", "back 3", "part 8 of 2")
	k.sees(2, "(1, null)")
	k.ok(k.s.Insert(2, "t", r(2, "y")), k.s.Savepoint(2, "d"))
	k.logged("insert 8 table 1 (2, 'y')", "part 9 of 8")
	k.commit(2)
	k.sees(0, "(1, null) (2, 'y')")
	k.crash()
	k.sees(0, "(1, null) (2, 'y')")
}

func TestS7Release(t *testing.T) {
	k := newDesk(t)
	k.begin()
	k.ok(k.s.Savepoint(2, "a"), k.s.Insert(2, "t", r(1)), k.s.Savepoint(2, "b"), k.s.Insert(2, "t", r(2)), k.s.Savepoint(2, "c"), k.s.Insert(2, "t", r(3)))
	k.seen = k.s.Log().End()
	k.ok(k.s.Release(2, "b"))
	k.logged("release 4")
	k.lasts(false)
	for _, name := range []string{"b", "c"} {
		k.is("Release of what is released", k.s.Release(2, name), api.ErrStoreName)
		k.is("RollbackTo of what is released", k.s.RollbackTo(2, name), api.ErrStoreName)
	}
	k.ok(k.s.Insert(2, "t", r(4)))
	k.sees(2, "(1, null) (2, null) (3, null) (4, null)")
	k.logged("insert 3 table 1 (4, null)")
	// What was released shares the fate of what is around it.
	k.ok(k.s.RollbackTo(2, "a"))
	k.logged("back 3", "part 6 of 2")
	k.sees(2, "")
	k.ok(k.s.Insert(2, "t", r(5)), k.s.Release(2, "a"), k.s.Insert(2, "t", r(6)))
	k.logged("insert 6 table 1 (5, null)", "release 6", "insert 2 table 1 (6, null)")
	k.commit(2)
	k.crash()
	k.sees(0, "(5, null) (6, null)")
}

// TestS7SameName: of savepoints of one name the last one counts.
func TestS7SameName(t *testing.T) {
	k := newDesk(t)
	k.begin()
	for n := range 3 {
		k.ok(k.s.Savepoint(2, "a"), k.s.Insert(2, "t", r(n)))
	}
	k.seen = k.s.Log().End()
	k.ok(k.s.RollbackTo(2, "a"), k.s.RollbackTo(2, "a"), k.s.Release(2, "a"), k.s.RollbackTo(2, "a"))
	k.logged("back 5", "part 6 of 4", "back 6", "part 7 of 4", "release 7", "back 4", "part 8 of 3")
	k.sees(2, "(0, null)")
	k.ok(k.s.Release(2, "a"), k.s.Release(2, "a"))
	k.logged("release 8", "release 3")
	k.is("Release of a fourth", k.s.Release(2, "a"), api.ErrStoreName)
	k.sees(2, "(0, null)")
}

func TestS7Deep(t *testing.T) {
	k := newDesk(t)
	k.begin()
	for range 16 {
		k.ok(k.s.Savepoint(2, "a"))
	}
	k.seen = k.s.Log().End()
	k.is("a 17th", k.s.Savepoint(2, "b"), api.ErrStoreDeep)
	k.logged()
	k.ok(k.s.Insert(2, "t", r(1)))
	k.logged("insert 18 table 1 (1, null)")
	k.ok(k.s.Release(2, "a"), k.s.Savepoint(2, "b"))
	k.is("a 17th", k.s.Savepoint(2, "b"), api.ErrStoreDeep)
	k.ok(k.s.RollbackTo(2, "b"))
	k.is("a 17th", k.s.Savepoint(2, "b"), api.ErrStoreDeep)
	// Of another transaction it is not asked.
	k.ok(k.s.Savepoint(k.begin(), "a"))
	// Now 18 parts: 46 more may be; the bound on savepoints is named first.
	for range 46 {
		k.ok(k.s.RollbackTo(2, "b"))
	}
	k.is("RollbackTo for a 65th part", k.s.RollbackTo(2, "b"), api.ErrXactMany)
	k.is("a 17th savepoint, a 65th part", k.s.Savepoint(2, "c"), api.ErrStoreDeep)
	k.ok(k.s.Release(2, "b"))
	k.is("a 65th part", k.s.Savepoint(2, "c"), api.ErrXactMany)
}

func TestS7Parts(t *testing.T) {
	k := newDesk(t)
	k.begin()
	k.ok(k.s.Savepoint(2, "a"))
	for range 63 {
		k.ok(k.s.RollbackTo(2, "a"))
	}
	k.ok(k.s.Insert(2, "t", r(1)))
	k.seen = k.s.Log().End()
	k.is("RollbackTo for a 65th part", k.s.RollbackTo(2, "a"), api.ErrXactMany)
	k.is("Savepoint for a 65th part", k.s.Savepoint(2, "b"), api.ErrXactMany)
	k.logged()
	k.sees(2, "(1, null)") // nothing was taken back
	k.ok(k.s.Insert(2, "t", r(2)))
	k.logged("insert 66 table 1 (2, null)")
	k.ok(k.s.Release(2, "a"))
	k.is("Savepoint for a 65th part", k.s.Savepoint(2, "b"), api.ErrXactMany)
	k.begin()
	k.ok(k.s.Savepoint(67, "a"))
	k.commit(2)
	k.crash()
	k.sees(0, "(1, null) (2, null)")
	// Parts that are released count, and those that were taken back with others.
	k = newDesk(t)
	k.begin()
	for range 32 {
		k.ok(k.s.Savepoint(2, "a"), k.s.Savepoint(2, "b"), k.s.Release(2, "a"))
	}
	k.is("Savepoint for a 65th part", k.s.Savepoint(2, "b"), api.ErrXactMany)
	k.commit(2)
}

func TestS7Order(t *testing.T) {
	k := newDesk(t)
	k.begin() // 2
	k.begin() // 3
	k.ok(k.s.Prepare(3, "w"))
	k.ok(k.s.Savepoint(2, "a"), k.s.Release(2, "a"))
	k.seen = k.s.Log().End()
	calls := map[string]func(int, string) api.Errno{"Savepoint": k.s.Savepoint, "RollbackTo": k.s.RollbackTo, "Release": k.s.Release}
	for what, call := range calls {
		for _, name := range odd {
			for _, x := range []int{2, 3, 9, 0, -1} {
				k.is(fmt.Sprintf("%s(%d, %q)", what, x, name), call(x, name), api.ErrArg)
			}
		}
		for _, x := range []int{0, 1, 3, 4, 9, -1, -2, lastXid} {
			k.is(fmt.Sprintf("%s(%d)", what, x), call(x, "a"), api.ErrStoreNone)
		}
	}
	for _, name := range []string{"a", "b", "abcdefghijklmnop"} {
		k.is("RollbackTo", k.s.RollbackTo(2, name), api.ErrStoreName)
		k.is("Release", k.s.Release(2, name), api.ErrStoreName)
	}
	k.logged()
	k.ok(k.s.Savepoint(2, "abcdefghijklmnop"), k.s.Savepoint(2, "a1_"), k.s.Release(2, "abcdefghijklmnop"))
	// Another's savepoint is none of its own.
	k.begin()
	k.is("Begin", k.s.Active(), []int{2, 7})
	k.ok(k.s.Savepoint(7, "mine"))
	k.is("RollbackTo of another's", k.s.RollbackTo(2, "mine"), api.ErrStoreName)
	k.is("Release of another's", k.s.Release(2, "mine"), api.ErrStoreName)
}
