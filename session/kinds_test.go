package session_test

import (
	"testing"

	"confluence/api"
	"confluence/query"
)

// came is what a step comes to: the answer, what it logs, the number in its note, whether it notes a position; and what
// is open behind it, and whether that has failed.
type came struct {
	answer, logs string
	xid          int
	committed    bool
	open         int
	failed       bool
}

// Of a session that has the transaction 5 open, behind the savepoint a.
var (
	inside = came{"error 122", "", 5, false, 5, true} // a statement that may not stand there
	failed = came{"error 131", "", 5, false, 5, true} // one that one may not do that has failed
)

// kind is a statement of one kind, and what comes of it with none open, with one open, and with one that has failed.
type kind struct {
	kind                int
	text                string
	none, open, failing came
}

// kinds has all of them, for a store as kindDesk makes it.
var kinds = []kind{
	{query.Create, "create table x (id int key)",
		came{"0", "create 5 x 3.1 (id int) key id", 0, true, 0, false}, inside, failed},
	{query.Drop, "drop table u",
		came{"0", "drop 5 table 2", 0, true, 0, false}, inside, failed},
	{query.Widen, "alter table u add c text",
		came{"0", "widen 5 u 2.2 (id int, c text null) key id", 0, true, 0, false}, inside, failed},
	{query.Empty, "truncate u",
		came{"0", "empty 5 table 2", 0, true, 0, false}, inside, failed},
	{query.Insert, "insert into t values (3), (4, 40)",
		came{"2", "begin 5; insert 5 table 1 (3, null); insert 5 table 1 (4, 40); commit 5", 5, true, 0, false},
		came{"2", "insert 6 table 1 (3, null); insert 6 table 1 (4, 40)", 5, false, 5, false}, failed},
	{query.Update, "update t set n = n + 1",
		came{"2", "begin 5; update 5 table 1 (1, 10) to (1, 11); update 5 table 1 (2, 20) to (2, 21); commit 5", 5, true, 0, false},
		came{"2", "update 6 table 1 (1, 10) to (1, 11); update 6 table 1 (2, 20) to (2, 21)", 5, false, 5, false}, failed},
	{query.Delete, "delete from t where id = 1",
		came{"1", "begin 5; delete 5 table 1 (1, 10); commit 5", 5, true, 0, false},
		came{"1", "delete 6 table 1 (1, 10)", 5, false, 5, false}, failed},
	{query.Select, "select id, n / 10 from t order by id desc",
		came{"2 [id|n / 10] (2, 2) (1, 1)", "begin 5; commit 5", 5, true, 0, false},
		came{"2 [id|n / 10] (2, 2) (1, 1)", "", 5, false, 5, false}, failed},
	{query.Begin, "begin",
		came{"0", "begin 5", 5, false, 5, false}, inside, failed},
	{query.Commit, "commit",
		came{"error 123", "", 0, false, 0, false},
		came{"0", "commit 5", 5, true, 0, false},
		came{"error 131", "abort 5", 5, false, 0, false}},
	{query.Rollback, "rollback",
		came{"error 123", "", 0, false, 0, false},
		came{"0", "abort 5", 5, false, 0, false},
		came{"0", "abort 5", 5, false, 0, false}},
	{query.Savepoint, "savepoint b",
		came{"error 123", "", 0, false, 0, false},
		came{"0", "part 7 of 6", 5, false, 5, false}, failed},
	{query.RollbackTo, "rollback to a",
		came{"error 123", "", 0, false, 0, false},
		came{"0", "back 6; part 7 of 5", 5, false, 5, false},
		came{"0", "back 6; part 7 of 5", 5, false, 5, false}},
	{query.Release, "release a",
		came{"error 123", "", 0, false, 0, false},
		came{"0", "release 6", 5, false, 5, false}, failed},
	{query.Prepare, "prepare 'v'",
		came{"error 123", "", 0, false, 0, false},
		came{"0", "prepare 5 as v", 5, false, 0, false},
		came{"error 131", "abort 5", 5, false, 0, false}},
	{query.CommitPrepared, "commit prepared 'w'",
		came{"0", "commit 4", 0, true, 0, false}, inside, failed},
	{query.RollbackPrepared, "rollback prepared 'w'",
		came{"0", "abort 4", 0, false, 0, false}, inside, failed},
}

// kindDesk is a store with the tables t, of two rows, and u, of none, on which the transaction 4 waits as w.
func kindDesk(t *testing.T) *desk {
	t.Helper()
	k := newDesk(t, 2)
	k.all(2, "create table u (id int key)", "begin", "insert into t values (9)", "prepare 'w'")
	return k
}

// opened is such a store, where the session 1 has the transaction 5 open, behind the savepoint a.
func opened(t *testing.T) *desk {
	t.Helper()
	k := kindDesk(t)
	k.all(1, "begin", "savepoint a")
	k.stands(1, 5, false)
	return k
}

// broken is such a one, where that has failed.
func broken(t *testing.T) *desk {
	t.Helper()
	k := opened(t)
	k.fails(1, "insert into t values (1)", api.ErrRowThere)
	k.stands(1, 5, true)
	return k
}

// comes holds a step of the session 1 against what it must come to.
func (k *desk) comes(text string, want came) {
	k.t.Helper()
	from, steps := k.s.Log().End(), len(k.m.History())
	a := k.m.Step(1, text)
	if got := told(k.t, a); got != want.answer {
		k.t.Errorf("%s: %s, want %s", text, got, want.answer)
	}
	if got := k.logged(from); got != want.logs {
		k.t.Errorf("%s logs %s, want %s", text, got, want.logs)
	}
	k.stands(1, want.open, want.failed)
	k.stands(2, 0, false)
	k.notes(1, want.xid, text, a.Code, want.committed)
	if len(k.m.History()) != steps+1 {
		k.t.Errorf("%s: the history has %d steps, had %d", text, len(k.m.History()), steps)
	}
	if at := k.last().Lsn; at != 0 && (at < from || k.placed()[at] == "") {
		k.t.Errorf("%s: it is committed at %d, and the log had ended at %d", text, at, from)
	}
}

// TestKinds: each kind of statement with none open, with one open, and with one that has failed.
func TestKinds(t *testing.T) {
	if len(kinds) != 17 {
		t.Fatalf("there are %d kinds", len(kinds))
	}
	for i, c := range kinds {
		if q, e, _ := query.Parse(c.text); e != api.OK || q.Kind() != i+1 || c.kind != i+1 {
			t.Fatalf("%s is no statement of the kind %d", c.text, i+1)
		}
		kindDesk(t).comes(c.text, c.none)
		opened(t).comes(c.text, c.open)
		broken(t).comes(c.text, c.failing)
	}
}

// TestKindsWrittenOtherwise: the history has a statement as it is printed, however it was written.
func TestKindsWrittenOtherwise(t *testing.T) {
	for _, c := range kinds {
		for _, make := range []func(*testing.T) *desk{kindDesk, opened, broken} {
			k := make(t)
			k.m.Step(1, "   "+c.text+"  ")
			if got := k.last().Text; got != c.text {
				t.Errorf("%q is noted as %q", c.text, got)
			}
		}
	}
	k := newDesk(t, 1)
	k.does(1, "select  ((id)),n+1 from t where(id>=2)limit 03", "1 [id|n + 1] (2, 21)")
	k.notes(1, 3, "select id, n + 1 from t where id >= 2 limit 3", api.OK, true)
	k.does(1, "insert into t values(-  7,null)", "1")
	k.notes(1, 4, "insert into t values (-7, null)", api.OK, true)
}

// TestKindsInDoubt: a store in doubt refuses what it is asked; what the session refuses by itself it goes on refusing.
func TestKindsInDoubt(t *testing.T) {
	for _, dies := range []bool{true, false} {
		for _, c := range kinds {
			for i, at := range []came{c.none, c.open, c.failing} {
				k := []func(*testing.T) *desk{kindDesk, opened, broken}[i](t)
				want := k.doubt(dies)
				if at.answer == "error 122" || at.answer == "error 123" || at.answer == "error 131" {
					want = at.answer
				} else {
					at.failed = at.open != 0
				}
				if c.kind == query.Prepare && i == 1 {
					at.open, at.failed = 5, true // as Prepare was refused
				}
				if i == 0 {
					at.xid, at.open, at.failed = 0, 0, false // as nothing is begun
				}
				k.comes(c.text, came{want, "", at.xid, false, at.open, at.failed})
				if t.Failed() {
					t.Fatalf("dead: %v; with none open, one, one that has failed: %d", dies, i)
				}
			}
		}
	}
}

// doubt puts the store in doubt by the session 2: what it answers then, in words.
func (k *desk) doubt(dies bool) string {
	k.t.Helper()
	if dies {
		k.ok(k.d.Arm(1))
		k.fails(2, "begin", api.ErrDead)
		return "error 2"
	}
	k.ok(k.d.FailSync(1))
	k.fails(2, "create table y (id int key)", api.ErrStoreDoubt)
	return "error 100"
}
