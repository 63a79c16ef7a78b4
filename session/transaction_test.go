package session_test

import (
	"fmt"
	"testing"

	"confluence/api"
)

// TestJ5Begin: Begin of one that has none open; what the store refuses is begun for nobody.
func TestJ5Begin(t *testing.T) {
	k := newDesk(t, 8)
	for who := 1; who <= 8; who++ {
		k.logs(who, "begin", fmt.Sprintf("begin %d", who+2))
		k.stands(who, who+2, false)
		k.notes(who, who+2, "begin", api.OK, false)
	}
	k = newDesk(t, 2)
	for i := range api.MaxOpen {
		k.all(2, "begin", fmt.Sprintf("prepare 'w%d'", i))
	}
	for _, text := range []string{"begin", "select * from t", "insert into t values (3)", "update t set n = 1", "delete from t", "select * from none"} {
		k.failsIdly(1, text, api.ErrStoreMany)
		k.notes(1, 0, text, api.ErrStoreMany, false)
		k.stands(1, 0, false)
	}
	k.does(1, "rollback prepared 'w7'", "0")
	k.does(1, "begin", "0")
	k.stands(1, 35, false)
	k.failsIdly(2, "select * from t", api.ErrStoreMany)
}

// TestLastNumber: where no number is left the store refuses what needs one.
func TestLastNumber(t *testing.T) {
	k := lateDesk(t, 1, 2)
	k.does(1, "begin", "0")
	k.stands(1, api.MaxXid, false)
	for _, text := range []string{"begin", "select * from t", "insert into t values (1)", "create table t (id int key)"} {
		k.failsIdly(2, text, api.ErrXactLast)
		k.notes(2, 0, text, api.ErrXactLast, false)
		k.stands(2, 0, false)
	}
	k.failsIdly(1, "savepoint a", api.ErrXactLast)
	k.notes(1, api.MaxXid, "savepoint a", api.ErrXactLast, false)
	k.stands(1, api.MaxXid, true)
	k.comes("rollback", came{"0", "abort 2147483647", api.MaxXid, false, 0, false})

	k = lateDesk(t, 1, 1)
	k.does(1, "create table t (id int key)", "0")
	k.notes(1, 0, "create table t (id int key)", api.OK, true)
	k.failsIdly(1, "drop table t", api.ErrXactLast)
	k.notes(1, 0, "drop table t", api.ErrXactLast, false)
}

// TestJ5Outside: what needs a transaction is refused with none open, and changes nothing.
func TestJ5Outside(t *testing.T) {
	k := kindDesk(t)
	for _, text := range []string{"commit", "rollback", "savepoint a", "rollback to a", "release a", "prepare 'v'", "prepare 'w'"} {
		k.failsIdly(1, text, api.ErrQueryOutside)
		k.notes(1, 0, text, api.ErrQueryOutside, false)
		k.stands(1, 0, false)
	}
	k.all(1, "begin", "commit")
	k.fails(1, "commit", api.ErrQueryOutside)
	k.all(1, "begin", "rollback")
	k.fails(1, "rollback", api.ErrQueryOutside)
	k.all(1, "begin", "prepare 'v'")
	k.fails(1, "prepare 'v'", api.ErrQueryOutside)
}

// TestJ5Commit: what is committed is there for those that begin behind it, and what is rolled back is not.
func TestJ5Commit(t *testing.T) {
	k := newDesk(t, 3)
	k.all(1, "begin", "insert into t values (3)", "delete from t where id = 1")
	k.all(2, "begin")
	k.commits(1)
	k.does(2, "select id from t", "2 [id] (1) (2)")
	k.does(3, "select id from t", "2 [id] (2) (3)")
	k.all(2, "rollback", "begin")
	k.does(2, "select id from t", "2 [id] (2) (3)")
	k.all(2, "delete from t", "rollback")
	k.stands(2, 0, false)
	k.notes(2, 6, "rollback", api.OK, false)
	k.does(3, "select id from t", "2 [id] (2) (3)")
	k.crash(1)
	k.does(1, "select id from t", "2 [id] (2) (3)")
}

// commits is a commit of a session, whose record the history tells.
func (k *desk) commits(who int) {
	k.t.Helper()
	xid := k.m.Xid(who)
	k.does(who, "commit", "0")
	k.notes(who, xid, "commit", api.OK, true)
	if got, want := k.placed()[k.last().Lsn], fmt.Sprint("commit ", xid); got != want {
		k.t.Errorf("at %d stands %s, want %s", k.last().Lsn, got, want)
	}
	k.stands(who, 0, false)
}

// TestJ5Savepoints: parts within parts, the same name twice, what is released and what is taken back.
func TestJ5Savepoints(t *testing.T) {
	k := newDesk(t, 1)
	k.all(1, "begin", "savepoint a", "insert into t values (3)", "savepoint a", "insert into t values (4)", "savepoint b", "insert into t values (5)")
	k.does(1, "rollback to a", "0") // the last one of that name
	k.does(1, "select id from t", "3 [id] (1) (2) (3)")
	k.all(1, "insert into t values (6)", "release a", "insert into t values (7)")
	k.does(1, "select id from t", "5 [id] (1) (2) (3) (6) (7)")
	k.does(1, "rollback to a", "0") // the first one
	k.does(1, "select id from t", "2 [id] (1) (2)")
	k.all(1, "insert into t values (8)", "release a")
	k.fails(1, "rollback to a", api.ErrStoreName)
	k.stands(1, 3, true)
	k.fails(1, "commit", api.ErrSessionFailed)
	k.sees(0, "(1, 10) (2, 20)")
}

// TestJ5Prepare: a Prepare that is OK leaves none open; one that is refused leaves it open, and failed.
func TestJ5Prepare(t *testing.T) {
	k := newDesk(t, 2)
	k.all(1, "begin", "insert into t values (3)")
	k.does(1, "prepare 'w'", "0")
	k.notes(1, 3, "prepare 'w'", api.OK, false)
	k.stands(1, 0, false)
	k.all(1, "begin", "savepoint a", "insert into t values (4)")
	k.failsIdly(1, "prepare 'w'", api.ErrStoreThere)
	k.notes(1, 4, "prepare 'w'", api.ErrStoreThere, false)
	k.stands(1, 4, true)
	k.does(1, "rollback to a", "0")
	k.does(1, "insert into t values (5)", "1")
	k.does(1, "prepare 'v'", "0")
	k.stands(1, 0, false)
	k.sees(0, "(1, 10) (2, 20)")

	k.does(2, "commit prepared 'w'", "0") // also by another session
	k.notes(2, 0, "commit prepared 'w'", api.OK, true)
	if got := k.placed()[k.last().Lsn]; got != "commit 3" {
		t.Errorf("w is committed by %s", got)
	}
	k.sees(0, "(1, 10) (2, 20) (3, null)")
	k.does(2, "rollback prepared 'v'", "0")
	k.notes(2, 0, "rollback prepared 'v'", api.OK, false)
	k.stands(2, 0, false)
	k.sees(0, "(1, 10) (2, 20) (3, null)")
}

// TestJ4Refused: with none open the store's own refusal is told; nothing is open behind it.
func TestJ4Refused(t *testing.T) {
	k := kindDesk(t)
	for text, why := range map[string]api.Errno{
		"create table t (id int key)":         api.ErrTableThere,
		"create table x (id bool key)":        api.ErrColumnKey,
		"create table x (id int key, id int)": api.ErrColumnThere,
		"drop table none":                     api.ErrTableNone,
		"drop table t":                        api.ErrStoreWritten,
		"alter table t add c int":             api.ErrStoreWritten,
		"alter table u add id int":            api.ErrColumnThere,
		"alter table none add id int":         api.ErrTableNone,
		"truncate t":                          api.ErrStoreWritten,
		"truncate none":                       api.ErrTableNone,
		"commit prepared 'none'":              api.ErrStoreName,
		"rollback prepared 'none'":            api.ErrStoreName,
	} {
		k.failsIdly(1, text, why)
		k.notes(1, 0, text, why, false)
		k.stands(1, 0, false)
	}
	k.does(1, "rollback prepared 'w'", "0")
	k.failsIdly(1, "rollback prepared 'w'", api.ErrStoreName)
	k.failsIdly(1, "commit prepared 'w'", api.ErrStoreName)
	k.does(1, "drop table t", "0")
}

// TestJ6Alone: a statement about rows with none open has a transaction of its own: committed, if it is OK, else aborted, whole.
func TestJ6Alone(t *testing.T) {
	k := newDesk(t, 2)
	k.comes("insert into t values (3), (4)", came{"2", "begin 3; insert 3 table 1 (3, null); insert 3 table 1 (4, null); commit 3", 3, true, 0, false})
	k.comes("insert into t values (5), (6), (1)", came{"error 91", "begin 4; insert 4 table 1 (5, null); insert 4 table 1 (6, null); abort 4", 4, false, 0, false})
	k.comes("select id from t", came{"4 [id] (1) (2) (3) (4)", "begin 5; commit 5", 5, true, 0, false})
	k.comes("select id from t where id / 0 = 1", came{"error 115", "begin 6; abort 6", 6, false, 0, false})
	k.comes("select id from none", came{"error 52", "begin 7; abort 7", 7, false, 0, false})
	k.comes("update t set n = 1 where id > 2", came{"2", "begin 8; update 8 table 1 (3, null) to (3, 1); update 8 table 1 (4, null) to (4, 1); commit 8", 8, true, 0, false})
	k.comes("update t set n = 1 / (id - 3)", came{"error 115", "begin 9; abort 9", 9, false, 0, false})
	k.comes("delete from t where n = 1", came{"2", "begin 10; delete 10 table 1 (3, 1); delete 10 table 1 (4, 1); commit 10", 10, true, 0, false})
	k.comes("delete from t where false", came{"0", "begin 11; commit 11", 11, true, 0, false})
	k.all(2, "begin", "update t set n = 9 where id = 2")
	k.fails(1, "update t set n = 8", api.ErrRowConflict) // the first row was written by then
	k.notes(1, 13, "update t set n = 8", api.ErrRowConflict, false)
	k.sees(0, "(1, 10) (2, 20)")
	k.stands(2, 12, false)
	if got := fmt.Sprint(k.s.Active()); got != "[12]" {
		t.Errorf("there are left %s", got)
	}
}

// TestTwoWriters: of two sessions that write one row one is refused, at once, whether the other is open still or not.
func TestTwoWriters(t *testing.T) {
	k := newDesk(t, 2)
	k.all(1, "begin")
	k.all(2, "begin")
	k.does(1, "update t set n = 11 where id = 1", "1")
	k.fails(2, "update t set n = 12 where id = 1", api.ErrRowConflict)
	k.stands(1, 3, false)
	k.stands(2, 4, true)
	k.does(1, "commit", "0")
	k.fails(2, "commit", api.ErrSessionFailed)
	k.sees(0, "(1, 11) (2, 20)")

	k.all(1, "begin", "savepoint a")
	k.all(2, "begin", "delete from t where id = 2", "commit")
	k.fails(1, "delete from t where id = 2", api.ErrRowConflict)
	k.does(1, "rollback to a", "0")
	k.does(1, "select id from t", "2 [id] (1) (2)")
	k.does(1, "update t set n = 1 where id = 1", "1")
	k.does(1, "commit", "0")
	k.sees(0, "(1, 1)")

	k.all(1, "begin", "insert into t values (7, 1)", "rollback")
	k.does(2, "insert into t values (7, 2)", "1")
	k.all(1, "begin", "savepoint a", "insert into t values (8, 1)", "rollback to a")
	k.does(2, "insert into t values (8, 2)", "1")
	k.does(1, "commit", "0")
	k.sees(0, "(1, 1) (7, 2) (8, 2)")
}

// TestSnapshots: a transaction reads what was committed ahead of its Begin, and its own writes that were not taken back.
func TestSnapshots(t *testing.T) {
	k := newDesk(t, 3)
	k.all(1, "begin")
	k.all(2, "begin", "insert into t values (3)")
	k.does(3, "insert into t values (4)", "1")
	k.does(1, "select id from t", "2 [id] (1) (2)")
	k.does(2, "select id from t", "3 [id] (1) (2) (3)")
	k.does(3, "select id from t", "3 [id] (1) (2) (4)")
	k.all(1, "insert into t values (5)", "savepoint a", "insert into t values (6)", "update t set n = 0 where id = 5")
	k.does(1, "select * from t", "4 [id|n] (1, 10) (2, 20) (5, 0) (6, null)")
	k.all(1, "rollback to a")
	k.does(1, "select * from t", "3 [id|n] (1, 10) (2, 20) (5, null)")
	k.all(2, "commit")
	k.does(1, "select id from t", "3 [id] (1) (2) (5)")
	k.all(1, "commit")
	k.does(3, "select id from t", "5 [id] (1) (2) (3) (4) (5)")

	k.all(1, "begin")
	k.does(2, "alter table t add more bool", "0") // there for everybody, also for who began ahead of it
	k.does(1, "select more from t where id = 1", "1 [more] (null)")
	k.does(2, "truncate t", "0")
	k.does(1, "select * from t", "0 [id|n|more]")
	k.does(2, "drop table t", "0")
	k.fails(1, "select * from t", api.ErrTableNone)
	k.stands(1, 10, true)
}
