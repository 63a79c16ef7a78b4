package query_test

import (
	"fmt"
	"testing"

	"confluence/api"
)

// oneOfEach is a statement of each kind, which a desk with the table t would take, each in its place.
var oneOfEach = []string{
	"create table new (a int key)", "drop table t", "alter table t add c int", "truncate t",
	"insert into t values (9)", "update t set n = 1", "delete from t", "select * from t",
	"begin", "commit", "rollback", "savepoint a", "rollback to a", "release a", "prepare 'a'", "commit prepared 'a'", "rollback prepared 'a'",
}

// wrongOfEach is one of each kind that would be refused by all that is asked later.
var wrongOfEach = []string{
	"create table t (a bool key)", "drop table none", "alter table none add c int", "truncate none",
	"insert into none values (null)", "update none set q = id + s", "delete from none where id", "select q from none where id order by 1 / 0",
	"begin", "commit", "rollback", "savepoint a", "rollback to a", "release a", "prepare 'a'", "commit prepared 'a'", "rollback prepared 'a'",
}

// TestQ3Doubt: a store in doubt, whose disk lives or is dead: ahead of all else.
func TestQ3Doubt(t *testing.T) {
	for _, dead := range []bool{true, false} {
		for _, l := range [][]string{oneOfEach, wrongOfEach} {
			for _, s := range l {
				k := newDesk(t)
				x := k.begin()
				want := api.ErrStoreDoubt
				if dead {
					want = api.ErrDead
					k.ok(k.d.Arm(1))
					k.fails(x, "insert into t values (4)", want)
				} else {
					k.ok(k.d.FailSync(1))
					k.fails(0, "create table u (a int key)", want)
				}
				for _, n := range []int{0, x, 99, -1} {
					k.fails(n, s, want)
				}
			}
		}
	}
	k := newDesk(t)
	k.ok(k.d.Arm(1))
	k.fails(0, "truncate t", api.ErrDead)
	k.fails(0, "select * from t", api.ErrDead)
	k.ok(k.d.Crash(nil))
	k.fails(0, "select * from t", api.ErrStoreDoubt)
	k.fails(7, "begin", api.ErrStoreDoubt)
	k.open()
	k.runs(0, "select id from t", "3 [id] (1) (2) (3)")
}

// TestQ3DeadButNotInDoubt: a disk may be dead, and the store has not asked it yet.
func TestQ3DeadButNotInDoubt(t *testing.T) {
	k := newDesk(t)
	x := k.begin()
	k.ok(k.d.Arm(1))
	if k.d.Create("other") != api.ErrDead || k.s.Doubt() {
		t.Fatal("the store is in doubt")
	}
	k.runs(0, "select id from t where n = 5", "1 [id] (2)")
	k.runs(x, "delete from t where id = 9", "0")
	k.fails(x, "commit", api.ErrArg)
	k.fails(0, "delete from t", api.ErrQueryOutside)
	k.fails(x, "delete from t", api.ErrDead)
	k.fails(0, "select id from t", api.ErrDead)
}

// TestQ3Places: each kind within a transaction, outside of one, and with a number that is not active.
func TestQ3Places(t *testing.T) {
	for i, s := range oneOfEach {
		kind := i + 1
		k := newDesk(t)
		over, back, waiting, x := k.begin(), k.begin(), k.begin(), k.begin()
		k.commit(over)
		k.ok(k.s.Abort(back), k.s.Prepare(waiting, "w"), k.s.Savepoint(x, "a"))
		part := x + 1
		want := func(n int) api.Errno {
			switch {
			case kind > 8:
				return api.ErrArg
			case kind <= 4 && n != 0:
				return api.ErrQueryInside
			case kind >= 5 && kind <= 7 && n == 0:
				return api.ErrQueryOutside
			case kind >= 5 && n != 0 && n != x:
				return api.ErrStoreNone
			}
			return api.OK
		}
		for _, n := range []int{over, back, waiting, part, 1, -1, -x, 99, 1 << 40, -1 << 63, 1<<63 - 1, x, 0} {
			if w := want(n); w != api.OK {
				k.failsIdly(n, s, w)
			}
		}
		k.sees(x, "t", "(1, 'a', null, true) (2, 'b', 5, false) (3, 'c', 7, null)")
		for _, n := range []int{0, x} {
			if want(n) == api.OK {
				if a := parsed(t, s).Run(k.s, n); a.Code != api.OK {
					t.Errorf("%s, in %d: %d", s, n, a.Code)
				}
			}
		}
	}
}

// TestQ3First: where it may not be run, nothing else is asked.
func TestQ3First(t *testing.T) {
	k := newDesk(t)
	x := k.begin()
	for i, s := range wrongOfEach {
		switch kind := i + 1; {
		case kind > 8:
			for _, n := range []int{0, x, 99} {
				k.failsIdly(n, s, api.ErrArg)
			}
		case kind <= 4:
			k.failsIdly(x, s, api.ErrQueryInside)
			k.failsIdly(99, s, api.ErrQueryInside)
		case kind <= 7:
			k.failsIdly(0, s, api.ErrQueryOutside)
			k.failsIdly(99, s, api.ErrStoreNone)
		default:
			k.failsIdly(99, s, api.ErrStoreNone)
		}
	}
}

// TestQ3WhatWasWrittenStays: ahead of an error, in the transaction.
func TestQ3WhatWasWrittenStays(t *testing.T) {
	k := newDesk(t)
	x := k.begin()
	k.fails(x, "insert into t values (7), (8), (1), (9)", api.ErrRowThere)
	k.sees(x, "t", "(1, 'a', null, true) (2, 'b', 5, false) (3, 'c', 7, null) (7, null, null, null) (8, null, null, null)")
	k.sees(0, "t", "(1, 'a', null, true) (2, 'b', 5, false) (3, 'c', 7, null)")
	k.commit(x)
	k.runs(0, "select id from t", "5 [id] (1) (2) (3) (7) (8)")
}

// TestQ3DoubtOnTheWay: a disk that dies between the rows of a statement.
func TestQ3DoubtOnTheWay(t *testing.T) {
	for _, s := range []string{"insert into t values (4), (5), (6)", "update t set n = 1", "delete from t", "create table u (a int key)", "drop table t", "alter table t add c int", "truncate t"} {
		for n := 1; ; n++ {
			k := newDesk(t)
			x := 0
			if s[0] == 'i' || s[0] == 'u' || s[:2] == "de" {
				x = k.begin()
			}
			k.ok(k.d.Arm(n))
			got := k.run(x, s)
			if !k.d.Dead() {
				if n < 2 {
					t.Errorf("%s asks nothing of the disk", s)
				}
				break
			}
			if got != fmt.Sprint("error ", int(api.ErrDead)) {
				t.Errorf("%s, while the disk dies in act %d: %s", s, n, got)
			}
			k.crash()
			k.sees(0, "t", "(1, 'a', null, true) (2, 'b', 5, false) (3, 'c', 7, null)")
		}
	}
}
