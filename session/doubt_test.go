package session_test

import (
	"fmt"
	"testing"

	"confluence/api"
)

// reopen opens the store anew behind a crash that keeps all bytes, or none of those that do not last.
func (k *desk) reopen(keep bool) {
	k.t.Helper()
	var l []api.Keep
	if keep {
		for _, name := range k.d.List() {
			l = append(l, api.Keep{Name: name, Bytes: k.d.Pending(name)})
		}
	}
	k.ok(k.d.Crash(l))
	*k = *on(k.t, k.d, 2)
}

// TestDiesAlone: a statement about rows with none open, and a disk that dies in each of its acts: Begin's, Run's, and Commit's two.
func TestDiesAlone(t *testing.T) {
	for act := 1; act <= 5; act++ {
		for _, keep := range []bool{false, true} {
			k := newDesk(t, 2)
			k.ok(k.d.Arm(act))
			if act == 5 {
				k.does(1, "insert into t values (3)", "1")
				continue
			}
			k.fails(1, "insert into t values (3)", api.ErrDead)
			k.stands(1, 0, false)
			xid := 3
			if act == 1 {
				xid = 0
			}
			k.notes(1, xid, "insert into t values (3)", api.ErrDead, false)
			k.fails(2, "select * from t", api.ErrDead)
			k.reopen(keep)
			if act == 4 && keep {
				k.sees(0, "(1, 10) (2, 20) (3, null)") // the commit's record is whole
			} else {
				k.sees(0, "(1, 10) (2, 20)")
			}
		}
	}
}

// TestCommitRefusedAlone: of a Commit that is refused nothing but its Code is told, whatever Run told.
func TestCommitRefusedAlone(t *testing.T) {
	for _, text := range []string{"select * from t", "insert into t values (3)", "update t set n = 1", "delete from t", "delete from t where false"} {
		k := newDesk(t, 2)
		k.ok(k.d.FailSync(1))
		k.fails(1, text, api.ErrStoreDoubt)
		k.notes(1, 3, text, api.ErrStoreDoubt, false)
		k.stands(1, 0, false)
		k.fails(1, text, api.ErrStoreDoubt)
		k.notes(1, 0, text, api.ErrStoreDoubt, false)
	}
}

// TestAbortRefusedAlone: where Run is refused its Code is told, also if the disk dies in the Abort behind it.
func TestAbortRefusedAlone(t *testing.T) {
	k := newDesk(t, 2)
	k.ok(k.d.Arm(2))
	k.fails(1, "insert into t values (1)", api.ErrRowThere)
	k.notes(1, 3, "insert into t values (1)", api.ErrRowThere, false)
	k.stands(1, 0, false)
	if !k.d.Dead() || !k.s.Doubt() {
		t.Error("it did not die in the Abort")
	}
	k.fails(1, "insert into t values (1)", api.ErrDead)
	k.reopen(true)
	k.sees(0, "(1, 10) (2, 20)")
}

// TestCommitRefused: behind a Commit that the store refuses none is open; it is there just if its record is whole.
func TestCommitRefused(t *testing.T) {
	for act, want := range map[int]string{1: "(1, 10) (2, 20)", 2: "(1, 10) (2, 20) (3, null)"} {
		k := newDesk(t, 2)
		k.all(1, "begin", "insert into t values (3)")
		k.ok(k.d.Arm(act))
		k.fails(1, "commit", api.ErrDead)
		k.notes(1, 3, "commit", api.ErrDead, false)
		k.stands(1, 0, false)
		k.fails(1, "commit", api.ErrQueryOutside)
		k.reopen(true)
		k.sees(0, want)
	}
	k := newDesk(t, 2)
	k.all(1, "begin", "insert into t values (3)")
	k.ok(k.d.FailSync(1))
	k.fails(1, "commit", api.ErrStoreDoubt)
	k.notes(1, 3, "commit", api.ErrStoreDoubt, false)
	k.stands(1, 0, false)
	k.reopen(false)
	k.sees(0, "(1, 10) (2, 20)")
}

// TestRollbackRefused: likewise behind a Rollback.
func TestRollbackRefused(t *testing.T) {
	for _, fail := range []bool{false, true} {
		k := newDesk(t, 2)
		k.all(1, "begin", "insert into t values (3)")
		if fail {
			k.fails(1, "begin", api.ErrQueryInside)
		}
		k.ok(k.d.Arm(1))
		k.fails(1, "rollback", api.ErrDead)
		k.notes(1, 3, "rollback", api.ErrDead, false)
		k.stands(1, 0, false)
		k.fails(1, "rollback", api.ErrQueryOutside)
		k.reopen(true)
		k.sees(0, "(1, 10) (2, 20)")
	}
}

// TestPrepareRefused: behind a Prepare that the store refuses the transaction is open, and has failed.
func TestPrepareRefused(t *testing.T) {
	for act := 1; act <= 2; act++ {
		k := newDesk(t, 2)
		k.all(1, "begin", "insert into t values (3)")
		k.ok(k.d.Arm(act))
		k.fails(1, "prepare 'w'", api.ErrDead)
		k.notes(1, 3, "prepare 'w'", api.ErrDead, false)
		k.stands(1, 3, true)
		k.fails(1, "prepare 'w'", api.ErrSessionFailed)
		k.stands(1, 0, false)
		k.reopen(true)
		if got, want := fmt.Sprint(k.s.Prepared()), []string{1: "[]", 2: "[w]"}[act]; got != want {
			t.Errorf("behind act %d there wait %s, want %s", act, got, want)
		}
	}
}

// TestDoubtWithin: what comes into doubt while a transaction is open lets that fail, and only an end of it ends it.
func TestDoubtWithin(t *testing.T) {
	for _, text := range []string{"insert into t values (3)", "update t set n = 1", "delete from t where id = 2", "savepoint b", "rollback to a", "release a", "prepare 'w'"} {
		for _, end := range []string{"commit", "rollback", "prepare 'v'"} {
			k := newDesk(t, 2)
			k.all(1, "begin", "savepoint a")
			k.all(2, "begin")
			k.ok(k.d.Arm(1))
			k.fails(1, text, api.ErrDead)
			k.notes(1, 3, text, api.ErrDead, false)
			k.stands(1, 3, true)
			k.stands(2, 5, false) // its own statements will tell it
			k.fails(1, "select * from t", api.ErrSessionFailed)
			k.fails(1, "rollback to a", api.ErrDead)
			k.stands(1, 3, true)
			if end == "rollback" {
				k.fails(1, end, api.ErrDead)
			} else {
				k.fails(1, end, api.ErrSessionFailed)
			}
			k.notes(1, 3, end, k.last().Code, false)
			k.stands(1, 0, false)
			k.fails(2, "select * from t", api.ErrDead)
			k.stands(2, 5, true)
		}
	}
}

// TestDoubtOfTables: a change of tables in which the store comes into doubt has no position, nor has what is done to one that waits.
func TestDoubtOfTables(t *testing.T) {
	for _, text := range []string{"create table x (id int key)", "drop table u", "alter table u add c int", "truncate u", "commit prepared 'w'", "rollback prepared 'w'"} {
		for act := 1; act <= 2; act++ {
			k := kindDesk(t)
			k.ok(k.d.Arm(act))
			k.fails(1, text, api.ErrDead)
			k.notes(1, 0, text, api.ErrDead, false)
			k.stands(1, 0, false)
		}
		k := kindDesk(t)
		k.ok(k.d.FailSync(1))
		k.fails(1, text, api.ErrStoreDoubt)
		k.notes(1, 0, text, api.ErrStoreDoubt, false)
		k.stands(1, 0, false)
	}
}

// TestDeadAndAlive: a store that is in doubt tells ErrDead while its disk is dead, and ErrStoreDoubt while that lives.
func TestDeadAndAlive(t *testing.T) {
	k := newDesk(t, 2)
	k.all(1, "begin")
	k.ok(k.d.FailSync(1))
	k.fails(2, "create table x (id int key)", api.ErrStoreDoubt)
	k.ok(k.d.Arm(1))
	k.fails(2, "begin", api.ErrStoreDoubt)
	if e := k.d.Create("x"); e != api.ErrDead {
		t.Errorf("Create: %d", e)
	}
	k.fails(2, "begin", api.ErrDead)
	k.fails(2, "commit", api.ErrQueryOutside)
	k.ok(k.d.Crash(nil))
	k.fails(2, "select * from t", api.ErrStoreDoubt)
	k.fails(1, "select * from t", api.ErrStoreDoubt)
	k.stands(1, 3, true)
	k.fails(1, "rollback", api.ErrStoreDoubt)
	k.stands(1, 0, false)
}

// TestFull: a disk without room.
func TestFull(t *testing.T) {
	full := 0
	for capacity := 300; capacity < 360; capacity++ {
		k := on(t, formatted(t, capacity), 1)
		k.does(1, "create table t (id int key, n int)", "0")
		for i := range 10 {
			text := fmt.Sprintf("insert into t values (%d, null)", i)
			xid := i + 2
			a := k.m.Step(1, text)
			if a.Code == api.OK {
				continue
			}
			full++
			if a.Code != api.ErrStoreDoubt || a.Count != 0 {
				t.Errorf("%s: %+v", text, a)
			}
			if got := k.last().Xid; got != 0 && got != xid || k.last().Lsn != 0 {
				t.Errorf("%s is noted as %+v", text, k.last())
			}
			k.stands(1, 0, false)
			k.fails(1, "begin", api.ErrStoreDoubt)
			break
		}
	}
	if full < 10 {
		t.Errorf("only %d disks were full", full)
	}
}
