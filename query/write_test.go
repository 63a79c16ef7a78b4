package query_test

import (
	"testing"

	"confluence/api"
)

func TestQ7Update(t *testing.T) {
	k := newDesk(t)
	x := k.begin()
	k.runs(x, "update t set n = n + 1, s = 'z' where id >= 2", "2")
	k.sees(x, "t", "(1, 'a', null, true) (2, 'z', 6, false) (3, 'z', 8, null)")
	k.runs(x, "update t set n = id", "3")
	k.sees(x, "t", "(1, 'a', 1, true) (2, 'z', 2, false) (3, 'z', 3, null)")
	k.runs(x, "update t set n = n where id = 2", "1") // also what stays as it was
	k.runs(x, "update t set n = 5 where false", "0")
	k.runs(x, "update t set n = 1 / 0 where false", "0")
	k.sees(0, "t", "(1, 'a', null, true) (2, 'b', 5, false) (3, 'c', 7, null)")
	k.commit(x)
	k.sees(0, "t", "(1, 'a', 1, true) (2, 'z', 2, false) (3, 'z', 3, null)")
}

// TestQ7OverTheOldRow: expressions look at columns that the statement sets, as they were.
func TestQ7OverTheOldRow(t *testing.T) {
	k := bare(t)
	k.runs(0, "create table t (id int key, a int, b int, c int)", "0")
	x := k.begin()
	k.runs(x, "insert into t values (1, 10, 20, 30), (2, 11, 21, 31)", "2")
	k.runs(x, "update t set a = b, b = c, c = a", "2")
	k.sees(x, "t", "(1, 20, 30, 10) (2, 21, 31, 11)")
	k.runs(x, "update t set c = a + b, a = a + 1, b = a + 1 where a = 20", "1")
	k.sees(x, "t", "(1, 21, 21, 50) (2, 21, 31, 11)")
	// nor does one row see what is made of another
	k.runs(x, "update t set a = a + 1 where a = 21", "2")
	k.sees(x, "t", "(1, 22, 21, 50) (2, 22, 31, 11)")
}

// TestQ7WorkedOutFirst: if a later row can't be worked out, nothing is written.
func TestQ7WorkedOutFirst(t *testing.T) {
	k := newDesk(t)
	x := k.begin()
	k.failsIdly(x, "update t set n = 10 / (id - 3)", api.ErrExprZero)
	k.failsIdly(x, "update t set s = 'x', n = 10 / (id - 2)", api.ErrExprZero)
	k.failsIdly(x, "update t set n = id + 9223372036854775805", api.ErrExprRange)
	// by rows, then by expressions
	k.failsIdly(x, "update t set n = 1 / (id - 2), s = substr('x', id - 1, 1)", api.ErrExprRange)
	k.failsIdly(x, "update t set n = 1 / (id - 1), s = substr('x', id - 1, 1)", api.ErrExprZero)
	k.failsIdly(x, "update t set s = substr('x', id - 1, 1), n = 1 / (id - 1)", api.ErrExprRange)
	// the condition of a later row comes ahead of what is set of an earlier one
	k.failsIdly(x, "update t set n = 1 / 0 where substr('x', 3 - id, 1) is not null", api.ErrExprRange)
	// and all of that ahead of what the store refuses
	y := k.begin()
	k.runs(y, "update t set n = 0 where id = 1", "1")
	k.failsIdly(x, "update t set n = 1 / (id - 3)", api.ErrExprZero)
	k.sees(x, "t", "(1, 'a', null, true) (2, 'b', 5, false) (3, 'c', 7, null)")
}

// TestQ7RefusedByTheStore: what was written ahead of it stays.
func TestQ7RefusedByTheStore(t *testing.T) {
	k := bare(t)
	k.runs(0, "create table t (id int key, n int not null, m int)", "0")
	x := k.begin()
	k.runs(x, "insert into t values (1, 1, 10), (2, 2, null), (3, 3, 30)", "3")
	k.fails(x, "update t set n = m", api.ErrRowFit)
	k.sees(x, "t", "(1, 10, 10) (2, 2, null) (3, 3, 30)")
	k.failsIdly(x, "update t set n = null", api.ErrRowFit)
	k.commit(x)
	x = k.begin()
	y := k.begin()
	k.runs(y, "update t set m = 0 where id = 2", "1")
	k.fails(x, "update t set m = 5", api.ErrRowConflict)
	k.sees(x, "t", "(1, 10, 5) (2, 2, null) (3, 3, 30)")
	k.failsIdly(x, "update t set m = 6 where id = 2", api.ErrRowConflict)
	k.runs(x, "update t set m = 6 where id <> 2", "2")
	k.fails(x, "delete from t", api.ErrRowConflict)
	k.sees(x, "t", "(2, 2, null) (3, 3, 6)")
	k.failsIdly(x, "delete from t", api.ErrRowConflict)
	k.commit(x)
	k.sees(0, "t", "(2, 2, null) (3, 3, 6)")
}

func TestQ7Delete(t *testing.T) {
	k := newDesk(t)
	x := k.begin()
	k.runs(x, "delete from t where n is null", "1")
	k.runs(x, "delete from t where n is null", "0")
	k.runs(x, "delete from t where id = 9", "0")
	k.sees(x, "t", "(2, 'b', 5, false) (3, 'c', 7, null)")
	k.failsIdly(x, "delete from t where 1 / (id - 3) = 1", api.ErrExprZero)
	k.runs(x, "delete from t", "2")
	k.sees(x, "t", "")
	k.runs(x, "delete from t", "0")
	k.sees(0, "t", "(1, 'a', null, true) (2, 'b', 5, false) (3, 'c', 7, null)")
	k.ok(k.s.Abort(x))
	k.sees(0, "t", "(1, 'a', null, true) (2, 'b', 5, false) (3, 'c', 7, null)")
}
