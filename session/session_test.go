package session_test

import (
	"fmt"
	"math"
	"strings"
	"testing"

	"confluence/api"
	"confluence/query"
	"confluence/session"
	"confluence/store"
)

// TestExamples: the chapter's section 'Examples'.
func TestExamples(t *testing.T) {
	k := on(t, formatted(t, room), 1)
	k.does(1, "create table t (id int key, n int)", "0")
	k.does(1, "begin", "0")
	k.stands(1, 2, false)
	k.fails(1, "begin", api.ErrQueryInside)
	k.stands(1, 2, true)
	k.fails(1, "select * from t", api.ErrSessionFailed)
	k.fails(1, "commit", api.ErrSessionFailed)
	k.stands(1, 0, false)

	k.fails(1, "savepoint a", api.ErrQueryOutside)
	k.does(1, "insert into t values (1)", "1")
	k.notes(1, 3, "insert into t values (1)", api.OK, true)
	if at := k.last().Lsn; k.placed()[at] != "commit 3" {
		t.Errorf("at %d stands %s", at, k.placed()[at])
	}
	k.all(1, "begin", "savepoint a")
	k.fails(1, "insert into t values (1)", api.ErrRowThere)
	k.stands(1, 4, true)
	k.does(1, "rollback to a", "0")
	k.stands(1, 4, false)
	k.does(1, "commit", "0")
	k.stands(1, 0, false)
}

// TestExamplesOfTheWhole: DOC.md's examples, as far as sessions go.
func TestExamplesOfTheWhole(t *testing.T) {
	k := newDesk(t, 2)
	k.all(1, "begin", "insert into t values (11)")
	k.all(2, "begin", "insert into t values (12)", "commit")
	k.all(1, "savepoint s", "insert into t values (13)", "rollback to s", "insert into t values (14)", "commit")
	k.sees(0, "(1, 10) (2, 20) (11, null) (12, null) (14, null)")

	k.all(1, "begin")
	k.does(1, "select n from t where id = 1", "1 [n] (10)")
	k.does(2, "update t set n = 11 where id = 1", "1")
	k.does(1, "select n from t where id = 1", "1 [n] (10)")
	k.fails(1, "update t set n = 12 where id = 1", api.ErrRowConflict)
	k.all(1, "rollback")

	k.all(1, "begin", "delete from t where id = 2", "prepare 'w'")
	k.crash(2)
	k.does(2, "select id from t where id < 3", "2 [id] (1) (2)")
	k.does(2, "commit prepared 'w'", "0")
	k.does(1, "select id from t where id < 3", "1 [id] (1)")
}

// TestJ1New: so many sessions as may be, none of which has a transaction open.
func TestJ1New(t *testing.T) {
	k := newDesk(t, 1)
	for _, n := range []int{0, -1, -8, 9, 10, 1000, math.MinInt, math.MaxInt, 1 << 32, 1<<32 + 1} {
		if m, e := session.New(k.s, n); m != nil || e != api.ErrArg {
			t.Errorf("New(%d) = %v, %d", n, m, e)
		}
	}
	before := bytesOf(k.d)
	for n := 1; n <= 8; n++ {
		k.m = machine(t, k.s, n)
		for who := -1; who <= 10; who++ {
			k.stands(who, 0, false)
		}
		if l := k.m.History(); len(l) != 0 {
			t.Errorf("a new history is %v", l)
		}
	}
	if bytesOf(k.d) != before {
		t.Error("New has written something")
	}
	k.ok(k.d.Arm(1))
	k.does(1, "begin", "error 2")
	if m, e := session.New(k.s, 2); m == nil || e != api.OK {
		t.Errorf("New on a store in doubt = %v, %d", m, e)
	}
	if m, e := session.New(k.s, 0); m != nil || e != api.ErrArg {
		t.Errorf("New(0) on a store in doubt = %v, %d", m, e)
	}
}

// TestJ2Sessions: there are those from 1 to n, each of which has a transaction of its own; others do nothing.
func TestJ2Sessions(t *testing.T) {
	for _, n := range []int{1, 2, 8} {
		k := newDesk(t, n)
		for who := 1; who <= n; who++ {
			k.does(who, "begin", "0")
			k.stands(who, 2+who, false)
		}
		before := len(k.m.History())
		for _, who := range []int{0, n + 1, -1, 9, 100, math.MinInt, math.MaxInt, 1<<32 + 1, -n} {
			for _, text := range []string{"begin", "commit", "insert into t values (7)", "select * from t", "create table u (id int key)", "selec", "", strings.Repeat(" ", 1001)} {
				k.failsIdly(who, text, api.ErrSessionNone)
			}
			k.stands(who, 0, false)
			if e := k.m.Quit(who); e != api.ErrSessionNone {
				t.Errorf("Quit(%d) = %d", who, e)
			}
		}
		if len(k.m.History()) != before {
			t.Error("what no session does is in the history")
		}
		for who := 1; who <= n; who++ {
			k.stands(who, 2+who, false)
		}
	}
}

// TestJ2NoStatement: what is no statement changes nothing, whatever the session has open, and is no step.
func TestJ2NoStatement(t *testing.T) {
	k := newDesk(t, 3)
	k.all(2, "begin", "insert into t values (3)")
	k.all(3, "begin", "savepoint a")
	k.fails(3, "begin", api.ErrQueryInside)
	history := fmt.Sprint(k.m.History())
	texts := map[string]api.Errno{
		"":                        api.ErrQueryForm,
		"selec":                   api.ErrQueryForm,
		"begin x":                 api.ErrQueryForm,
		"commit;":                 api.ErrQueryForm,
		"BEGIN":                   api.ErrQueryForm,
		"rollback to":             api.ErrQueryForm,
		"rollback to 'a'":         api.ErrQueryForm,
		"prepare w":               api.ErrQueryForm,
		"create table u (id int)": api.ErrQueryForm,
		"insert into t values (99999999999999999999)": api.ErrValueForm,
		"insert into t values (3, 4":                  api.ErrQueryForm,
		"select 1 + from t":                           api.ErrExprForm,
		"select id from t where (id = 1":              api.ErrExprForm,
		strings.Repeat(" ", 996) + "begin":            api.ErrQueryLong,
		strings.Repeat("\x00", 2000):                  api.ErrQueryLong,
	}
	for text, want := range texts {
		if _, e, _ := query.Parse(text); e != want {
			t.Errorf("Parse(%.40q): %d, want %d", text, e, want)
		}
		for who := 1; who <= 3; who++ {
			k.failsIdly(who, text, want)
		}
	}
	k.stands(1, 0, false)
	k.stands(2, 3, false)
	k.stands(3, 4, true)
	if got := fmt.Sprint(k.m.History()); got != history {
		t.Errorf("the history is %s, was %s", got, history)
	}
	k.does(2, "select id from t", "3 [id] (1) (2) (3)")
	k.does(1, strings.Repeat(" ", 995)+"begin", "0")
}

// TestTwoMachines: several machines may stand on one store: each has sessions and a history of its own, and they see what the other has committed.
func TestTwoMachines(t *testing.T) {
	k := newDesk(t, 2)
	o := &desk{t: t, d: k.d, s: k.s, m: machine(t, k.s, 1)}
	k.all(1, "begin", "insert into t values (3)")
	o.stands(1, 0, false)
	o.does(1, "select id from t", "2 [id] (1) (2)")
	o.does(1, "begin", "0")
	o.stands(1, 5, false)
	k.stands(1, 3, false)
	o.fails(1, "insert into t values (3)", api.ErrRowConflict)
	o.stands(1, 5, true)
	k.stands(1, 3, false)
	o.fails(2, "begin", api.ErrSessionNone)
	k.all(1, "prepare 'w'")
	o.does(1, "rollback", "0")
	o.does(1, "commit prepared 'w'", "0")
	k.does(2, "select id from t", "3 [id] (1) (2) (3)")
	k.fails(2, "commit prepared 'w'", api.ErrStoreName)
	if got := historyText(k.m.History()); got != "1 3 begin 0; 1 3 insert into t values (3) 0; 1 3 prepare 'w' 0; 2 6 select id from t 0 commit; 2 0 commit prepared 'w' 102" {
		t.Errorf("the first one's history: %s", got)
	}
	if got := historyText(o.m.History()); got != "1 4 select id from t 0 commit; 1 5 begin 0; 1 5 insert into t values (3) 92; 1 5 rollback 0; 1 0 commit prepared 'w' 0 commit" {
		t.Errorf("the second one's history: %s", got)
	}
	o.does(1, "drop table t", "0")
	k.fails(1, "select * from t", api.ErrTableNone)
}

// TestStoresApart: machines on two stores do not disturb one another.
func TestStoresApart(t *testing.T) {
	a, b := newDesk(t, 1), newDesk(t, 1)
	a.all(1, "begin", "delete from t")
	b.does(1, "select id from t", "2 [id] (1) (2)")
	b.does(1, "drop table t", "0")
	a.does(1, "commit", "0")
	a.ok(a.d.Arm(1))
	a.fails(1, "begin", api.ErrDead)
	b.does(1, "begin", "0")
	b.stands(1, 5, false)
}

// TestOthersEndIt: whoever has the store may end what a session has open: then the store has none of that number.
func TestOthersEndIt(t *testing.T) {
	ends := map[string]func(*store.Store, int) api.Errno{
		"Abort":   (*store.Store).Abort,
		"Commit":  func(s *store.Store, x int) api.Errno { _, e := s.Commit(x); return e },
		"Prepare": func(s *store.Store, x int) api.Errno { return s.Prepare(x, "other") },
	}
	texts := []string{"select * from t", "insert into t values (5)", "savepoint b", "rollback to a", "release a", "prepare 'w'", "commit", "rollback"}
	for name, end := range ends {
		for _, text := range texts {
			k := newDesk(t, 1)
			k.all(1, "begin", "savepoint a")
			k.ok(end(k.s, 3))
			k.stands(1, 3, false)
			k.failsIdly(1, text, api.ErrStoreNone)
			if text == "commit" || text == "rollback" {
				k.stands(1, 0, false)
			} else {
				k.stands(1, 3, true)
				k.failsIdly(1, "rollback to a", api.ErrStoreNone)
				k.stands(1, 3, true)
				k.failsIdly(1, "commit", api.ErrSessionFailed)
				k.stands(1, 0, false)
			}
			k.notes(1, 3, k.last().Text, k.last().Code, false)
			if t.Failed() {
				t.Fatalf("behind %s: %s", name, text)
			}
		}
		k := newDesk(t, 1)
		k.all(1, "begin")
		k.ok(end(k.s, 3))
		if e := k.m.Quit(1); e != api.ErrStoreNone {
			t.Errorf("behind %s Quit = %d", name, e)
		}
		k.stands(1, 0, false)
	}
}
