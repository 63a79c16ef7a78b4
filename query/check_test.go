package query_test

import (
	"testing"

	"confluence/api"
)

// TestQ6TableFirst: ahead of all that is wrong with the expressions.
func TestQ6TableFirst(t *testing.T) {
	k := newDesk(t)
	x := k.begin()
	for _, s := range []string{"update u set q = 1", "update u set id = 1", "update u set n = id + s where id", "delete from u", "delete from u where id", "select * from u", "select q from u", "select * from u where id", "select * from u order by q", "select 1 / 0 from u"} {
		k.failsIdly(x, s, api.ErrTableNone)
	}
}

// TestQ6Update: what is asked ahead of each expression, of it, and behind it; then of the condition.
func TestQ6Update(t *testing.T) {
	k := newDesk(t)
	x := k.begin()
	for s, e := range map[string]api.Errno{
		"update t set q = 1":                    api.ErrExprName,
		"update t set q = id + s":               api.ErrExprName,
		"update t set q = 1, q = 1":             api.ErrExprName,
		"update t set id = 1":                   api.ErrColumnKey,
		"update t set id = id":                  api.ErrColumnKey,
		"update t set id = q":                   api.ErrColumnKey,
		"update t set id = 's', id = 1":         api.ErrColumnKey,
		"update t set n = 1, id = 1, q = 1":     api.ErrColumnKey,
		"update t set n = 1, n = 1":             api.ErrColumnThere,
		"update t set n = 1, s = 'x', n = q":    api.ErrColumnThere,
		"update t set n = 1, n = 's'":           api.ErrColumnThere,
		"update t set n = 1, n = id + s":        api.ErrColumnThere,
		"update t set n = q":                    api.ErrExprName,
		"update t set n = q + s":                api.ErrExprName,
		"update t set n = id + s":               api.ErrExprKind,
		"update t set n = s + q":                api.ErrExprName, // parts ahead of what holds them together
		"update t set n = 's'":                  api.ErrExprKind,
		"update t set n = true":                 api.ErrExprKind,
		"update t set s = 1":                    api.ErrExprKind,
		"update t set s = b":                    api.ErrExprKind,
		"update t set b = 1":                    api.ErrExprKind,
		"update t set b = s":                    api.ErrExprKind,
		"update t set n = 's', q = 1":           api.ErrExprKind,
		"update t set n = q, id = 1":            api.ErrExprName,
		"update t set n = 's' where q":          api.ErrExprKind,
		"update t set n = 's' where id":         api.ErrExprKind,
		"update t set id = 1 where id":          api.ErrColumnKey,
		"update t set n = 1, n = 1 where q":     api.ErrColumnThere,
		"update t set n = 1 where q":            api.ErrExprName,
		"update t set n = 1 where q = 1 and id": api.ErrExprName,
		"update t set n = 1 where id and q":     api.ErrExprName,
		"update t set n = 1 where id + s = 1":   api.ErrExprKind,
		"update t set n = 1 where id":           api.ErrQueryKind,
		"update t set n = 1 where s":            api.ErrQueryKind,
		"update t set n = 1 where 1 / 0":        api.ErrQueryKind, // it is checked ahead of being worked out
		"update t set n = 1 / 0 where id":       api.ErrQueryKind,
		"update t set n = 1 / 0, q = 1":         api.ErrExprName,
		"update t set n = 1 / 0, s = 1":         api.ErrExprKind,
		"update t set n = 1 where 1 / 0 = 's'":  api.ErrExprKind,
	} {
		k.failsIdly(x, s, e)
	}
	k.runs(0, "create table empty (id int key, n int)", "0")
	k.failsIdly(x, "update empty set n = 's'", api.ErrExprKind) // also where there are no rows
	k.failsIdly(x, "update empty set id = 1", api.ErrColumnKey)
	k.failsIdly(x, "update empty set n = 1 where n", api.ErrQueryKind)
	k.runs(x, "update empty set n = 1 / 0", "0")
	// of any kind
	for _, s := range []string{"update t set n = null, s = null, b = null", "update t set n = case when b then null end", "update t set n = coalesce(null, null)", "update t set n = nullif(null, 1)", "update t set n = 1 where null or true", "update t set n = id, s = s, b = b"} {
		k.runs(x, s, "3")
	}
	k.runs(x, "update t set n = 1 where null", "0")
	k.runs(x, "update t set n = 1 where case when true then null end", "0")
}

func TestQ6KeyInAnotherPlace(t *testing.T) {
	k := bare(t)
	k.runs(0, "create table t (n int, s text key, m int)", "0")
	x := k.begin()
	k.runs(x, "insert into t values (1, 'a', 2), (3, 'b', 4)", "2")
	k.failsIdly(x, "update t set s = 'c'", api.ErrColumnKey)
	k.runs(x, "update t set n = m, m = n where s > 'a'", "1")
	k.runs(x, "select * from t", "2 [n|s|m] (1, 'a', 2) (4, 'b', 3)")
	k.runs(x, "delete from t where n = 1", "1")
	k.runs(x, "select * from t", "1 [n|s|m] (4, 'b', 3)")
}

func TestQ6Delete(t *testing.T) {
	k := newDesk(t)
	x := k.begin()
	for s, e := range map[string]api.Errno{
		"delete from t where q": api.ErrExprName, "delete from t where id + s = 1": api.ErrExprKind, "delete from t where id": api.ErrQueryKind, "delete from t where s": api.ErrQueryKind, "delete from t where s || s": api.ErrQueryKind, "delete from t where coalesce(n, 1)": api.ErrQueryKind, "delete from t where not id": api.ErrExprKind,
	} {
		k.failsIdly(x, s, e)
	}
	k.runs(x, "delete from t where null", "0")
}

// TestQ6Select: the list, then the condition, then the order.
func TestQ6Select(t *testing.T) {
	k := newDesk(t)
	for _, x := range []int{0, k.begin()} {
		for s, e := range map[string]api.Errno{
			"select q from t":                             api.ErrExprName,
			"select id, q from t":                         api.ErrExprName,
			"select id + s, q from t":                     api.ErrExprKind,
			"select q, id + s from t":                     api.ErrExprName,
			"select id + s from t where q":                api.ErrExprKind,
			"select q from t where id":                    api.ErrExprName,
			"select id from t where q order by id + s":    api.ErrExprName,
			"select id from t where id order by q":        api.ErrQueryKind,
			"select id from t where id + s = 1":           api.ErrExprKind,
			"select id from t where id":                   api.ErrQueryKind,
			"select id from t where s":                    api.ErrQueryKind,
			"select * from t where n":                     api.ErrQueryKind,
			"select id from t order by q":                 api.ErrExprName,
			"select id from t order by id + s":            api.ErrExprKind,
			"select * from t order by q desc limit 0":     api.ErrExprName,
			"select id + s from t limit 0":                api.ErrExprKind,
			"select 1 / 0 from t where 1 / 0 = 1 limit 0": api.ErrExprZero,
			"select 1 / 0, q from t":                      api.ErrExprName,
			"select 1 / 0 from t where id":                api.ErrQueryKind,
			"select 1 / 0 from t order by q":              api.ErrExprName,
			"select id from t where 1 / 0 = 1 order by q": api.ErrExprName,
		} {
			k.failsIdly(x, s, e)
		}
		k.runs(x, "select id from t where null", "0 [id]")
		k.runs(x, "select null, id from t where id = 1 order by null", "1 [null|id] (null, 1)")
	}
	k.runs(0, "create table empty (id int key)", "0")
	k.failsIdly(0, "select q from empty", api.ErrExprName)
	k.failsIdly(0, "select id from empty where id", api.ErrQueryKind)
	k.failsIdly(0, "select id from empty order by q", api.ErrExprName)
	k.runs(0, "select 1 / 0 from empty where 1 / 0 = 1 order by 1 / 0", "0 [1 / 0]")
}

// TestQ6Chosen: rows for which the condition is true; not those for which it is false, or null; an error is told.
func TestQ6Chosen(t *testing.T) {
	k := newDesk(t)
	x := k.begin()
	for s, want := range map[string]string{
		"id >= 2": "2 [id] (2) (3)", "n > 1": "2 [id] (2) (3)", "not n > 1": "0 [id]", "n > 6": "1 [id] (3)", "n is null": "1 [id] (1)", "b": "1 [id] (1)", "not b": "1 [id] (2)", "b is null": "1 [id] (3)", "b or n > 1": "3 [id] (1) (2) (3)", "true": "3 [id] (1) (2) (3)", "false": "0 [id]", "null": "0 [id]", "n = null": "0 [id]", "s in ('a', 'c')": "2 [id] (1) (3)", "s in ('a', null)": "1 [id] (1)", "case when id = 2 then true end": "1 [id] (2)",
	} {
		k.runs(x, "select id from t where "+s, want)
	}
	for s, e := range map[string]api.Errno{
		"1 / (id - 3) = 1": api.ErrExprZero, "1 / (n - 5) = 1": api.ErrExprZero, "id + 9223372036854775805 > 0": api.ErrExprRange, "id < 3 and 1 / (id - 2) > 0": api.ErrExprZero,
		"case when id = 1 then 1 / 0 = 1 else id + 9223372036854775807 = 1 end": api.ErrExprZero, "case when id = 3 then 1 / 0 = 1 else id + 9223372036854775807 = 1 end": api.ErrExprRange,
	} {
		k.failsIdly(x, "select id from t where "+s, e)
		k.failsIdly(x, "update t set n = 1 where "+s, e)
		k.failsIdly(x, "delete from t where "+s, e)
	}
	k.runs(x, "select id from t where id = 3 or 1 / (id - 3) < 9", "3 [id] (1) (2) (3)")
}

// TestQ6WhatTheTransactionSees: nothing else is chosen.
func TestQ6WhatTheTransactionSees(t *testing.T) {
	k := newDesk(t)
	a := k.begin()
	b := k.begin()
	k.runs(b, "insert into t values (4)", "1")
	k.runs(b, "update t set n = 100 where id = 1", "1")
	k.runs(b, "delete from t where id = 2", "1")
	k.runs(b, "select id, n from t", "3 [id|n] (1, 100) (3, 7) (4, null)")
	for range 2 {
		k.runs(a, "select id, n from t", "3 [id|n] (1, null) (2, 5) (3, 7)")
		if len(k.s.Active()) == 2 {
			k.runs(0, "select id, n from t", "3 [id|n] (1, null) (2, 5) (3, 7)")
			k.commit(b)
		}
	}
	k.runs(0, "select id, n from t", "3 [id|n] (1, 100) (3, 7) (4, null)")
	k.runs(a, "update t set n = 0 where n = 100", "0")
	k.runs(a, "delete from t where id = 4", "0")
	k.runs(a, "update t set n = 8 where n = 7", "1")
	k.failsIdly(a, "update t set n = 8 where id = 2", api.ErrRowConflict)
}
