package session_test

import (
	"fmt"
	"testing"

	"confluence/api"
)

// refused is a statement that is refused while a transaction is open, and why; what must be done ahead of it.
type refused struct {
	ahead []string
	text  string
	why   api.Errno
}

// repeat is a text so many times.
func repeat(n int, l ...string) []string {
	var out []string
	for range n {
		out = append(out, l...)
	}
	return out
}

// refusals are statements of each kind that may be refused in the transaction 5 of opened.
var refusals = []refused{
	{nil, "create table x (id int key)", api.ErrQueryInside},
	{nil, "create table t (id int key)", api.ErrQueryInside}, // ahead of what the store would say
	{nil, "drop table u", api.ErrQueryInside},
	{nil, "drop table none", api.ErrQueryInside},
	{nil, "alter table u add c text", api.ErrQueryInside},
	{nil, "truncate u", api.ErrQueryInside},
	{nil, "commit prepared 'w'", api.ErrQueryInside},
	{nil, "commit prepared 'none'", api.ErrQueryInside},
	{nil, "rollback prepared 'w'", api.ErrQueryInside},
	{nil, "rollback prepared 'none'", api.ErrQueryInside},
	{nil, "begin", api.ErrQueryInside},
	{nil, "insert into none values (1)", api.ErrTableNone},
	{nil, "insert into t values (3), (1)", api.ErrRowThere},
	{nil, "insert into t values ('a')", api.ErrRowFit},
	{nil, "insert into t values (9)", api.ErrRowConflict},
	{nil, "update t set id = 3", api.ErrColumnKey},
	{nil, "update t set c = 3", api.ErrExprName},
	{nil, "update t set n = 1 / (n - 20)", api.ErrExprZero},
	{nil, "update none set n = 1", api.ErrTableNone},
	{nil, "delete from t where n", api.ErrQueryKind},
	{nil, "delete from none", api.ErrTableNone},
	{nil, "select * from none", api.ErrTableNone},
	{nil, "select c from t", api.ErrExprName},
	{nil, "select 1 / (n - 20) from t", api.ErrExprZero},
	{nil, "select id + 'a' from t", api.ErrExprKind},
	{repeat(15, "savepoint b"), "savepoint c", api.ErrStoreDeep},
	{repeat(63, "savepoint b", "release b"), "savepoint c", api.ErrXactMany},
	{nil, "rollback to none", api.ErrStoreName},
	{nil, "release none", api.ErrStoreName},
	{[]string{"savepoint b", "release b"}, "release b", api.ErrStoreName},
	{nil, "prepare 'w'", api.ErrStoreThere},
}

// refuse brings an open transaction to the point where one of these is refused.
func (c refused) refuse(t *testing.T) *desk {
	t.Helper()
	k := opened(t)
	k.all(1, c.ahead...)
	k.stands(1, 5, false)
	k.fails(1, c.text, c.why)
	k.notes(1, 5, c.text, c.why, false)
	return k
}

// TestJ7Refused: whatever is refused while a transaction is open, that has failed; but it is still open.
func TestJ7Refused(t *testing.T) {
	for _, c := range refusals {
		k := c.refuse(t)
		k.stands(1, 5, true)
		if fmt.Sprint(k.s.Active()) != "[5]" || fmt.Sprint(k.s.Prepared()) != "[w]" {
			t.Errorf("behind %s there are %v, and wait %v", c.text, k.s.Active(), k.s.Prepared())
		}
	}
}

// TestJ3Failed: what has failed can only be taken back: everything else is refused, and does nothing.
func TestJ3Failed(t *testing.T) {
	for _, c := range refusals {
		k := c.refuse(t)
		for _, x := range kinds {
			if x.failing == failed {
				k.failsIdly(1, x.text, api.ErrSessionFailed)
				k.notes(1, 5, x.text, api.ErrSessionFailed, false)
				k.stands(1, 5, true)
			}
		}
		k.does(2, "select id from t", "2 [id] (1) (2)")
		k.logs(1, "rollback", "abort 5")
		k.notes(1, 5, "rollback", api.OK, false)
		k.stands(1, 0, false)
		k.sees(0, "(1, 10) (2, 20)")
	}
}

// TestJ3CommitOfFailed: a Commit, or a Prepare, of one that has failed is its end: nothing of it is there.
func TestJ3CommitOfFailed(t *testing.T) {
	for _, text := range []string{"commit", "prepare 'v'", "prepare 'w'"} {
		k := newDesk(t, 2)
		k.all(1, "begin", "insert into t values (3)", "savepoint a", "delete from t where id = 1")
		k.fails(1, "release b", api.ErrStoreName)
		k.stands(1, 3, true)
		k.comes(text, came{"error 131", "abort 3", 3, false, 0, false})
		k.sees(0, "(1, 10) (2, 20)")
		if l := k.s.Prepared(); len(l) != 0 {
			t.Errorf("behind %s there wait %v", text, l)
		}
		k.failsIdly(1, "rollback to a", api.ErrQueryOutside)
		k.does(2, "delete from t where id = 1", "1")
		k.does(1, "begin", "0")
		k.stands(1, 6, false)
	}
}

// TestJ5RollbackTo: behind a RollbackTo that is OK the transaction has not failed any more, and goes on without what it takes back.
func TestJ5RollbackTo(t *testing.T) {
	for _, c := range refusals {
		k := newDesk(t, 1)
		k.all(1, "create table u (id int key)", "begin", "insert into t values (9)", "prepare 'w'")
		k.all(1, "begin", "insert into t values (5, 50)", "savepoint a", "update t set n = 0 where id = 1")
		if len(c.ahead) == 0 {
			k.fails(1, c.text, c.why)
			k.stands(1, 5, true)
			k.does(1, "rollback to a", "0")
		}
		k.stands(1, 5, false)
		k.does(1, "rollback to a", "0") // also of one that has not failed
		k.stands(1, 5, false)
		k.does(1, "select id from t", "3 [id] (1) (2) (5)")
		k.does(1, "update t set n = 51 where id = 5", "1")
		k.does(1, "commit", "0")
		k.stands(1, 0, false)
		k.sees(0, "(1, 10) (2, 20) (5, 51)")
	}
}

// TestJ5RollbackToRefused: a RollbackTo that the store refuses leaves a transaction failed, and lets one fail that had not.
func TestJ5RollbackToRefused(t *testing.T) {
	k := broken(t)
	for range 3 {
		k.failsIdly(1, "rollback to b", api.ErrStoreName)
		k.notes(1, 5, "rollback to b", api.ErrStoreName, false)
		k.stands(1, 5, true)
	}
	k.does(1, "rollback to a", "0")
	k.stands(1, 5, false)

	k = opened(t)
	k.all(1, repeat(63, "savepoint b", "release b")...)
	for range 3 {
		k.failsIdly(1, "rollback to a", api.ErrXactMany)
		k.notes(1, 5, "rollback to a", api.ErrXactMany, false)
		k.stands(1, 5, true)
	}
	k.does(1, "rollback", "0")
	k.stands(1, 0, false)

	k = lateDesk(t, 2, 1)
	k.all(1, "begin", "savepoint a")
	for range 3 {
		k.failsIdly(1, "rollback to a", api.ErrXactLast)
		k.stands(1, api.MaxXid-1, true)
	}
	k.fails(1, "commit", api.ErrSessionFailed)
	k.stands(1, 0, false)
}

// TestJ5Again: one may fail and go on as often as one likes.
func TestJ5Again(t *testing.T) {
	k := opened(t)
	for i := range 20 {
		k.does(1, fmt.Sprintf("insert into t values (%d)", 100+i), "1")
		k.does(1, "savepoint b", "0")
		k.fails(1, "insert into t values (50), (1)", api.ErrRowThere)
		k.stands(1, 5, true)
		k.does(1, "rollback to b", "0")
		k.stands(1, 5, false)
		k.does(1, "release b", "0")
	}
	k.does(1, "commit", "0")
	k.does(2, "select id from t where id = 50", "0 [id]")
	k.does(2, "select id from t where id >= 118", "2 [id] (118) (119)")
}

// TestOthersGoOn: one session's failure is not another's.
func TestOthersGoOn(t *testing.T) {
	k := newDesk(t, 3)
	k.all(1, "begin", "insert into t values (3)")
	k.all(2, "begin", "insert into t values (4)")
	k.fails(1, "begin", api.ErrQueryInside)
	k.stands(1, 3, true)
	k.stands(2, 4, false)
	k.stands(3, 0, false)
	k.does(2, "insert into t values (5)", "1")
	k.does(3, "select id from t", "2 [id] (1) (2)")
	k.fails(3, "insert into t values (3)", api.ErrRowConflict) // what has failed still stands in its way
	k.does(2, "commit", "0")
	k.stands(1, 3, true)
	k.fails(1, "commit", api.ErrSessionFailed)
	k.does(3, "insert into t values (3)", "1")
}
