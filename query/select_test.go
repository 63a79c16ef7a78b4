package query_test

import (
	"testing"

	"confluence/api"
)

func TestExample3(t *testing.T) {
	k := bare(t)
	k.runs(0, "create table t (id int key, name text, n int)", "0")
	x := k.begin()
	k.runs(x, "insert into t values (1, 'a', null), (2, 'b', 5)", "2")
	k.runs(x, "select * from t where n > 1", "1 [id|name|n] (2, 'b', 5)")
	k.runs(x, "update t set n = 1 where id = 1", "1")
	k.fails(x, "update t set id = 3", api.ErrColumnKey)
	k.fails(x, "select n from t where id", api.ErrQueryKind)
}

func TestQ8Names(t *testing.T) {
	k := newDesk(t)
	for s, want := range map[string]string{
		"select * from t limit 1":                             "1 [id|s|n|b] (1, 'a', null, true)",
		"select id from t limit 1":                            "1 [id] (1)",
		"select (id) from t limit 1":                          "1 [id] (1)",
		"select s, id, s from t limit 1":                      "1 [s|id|s] ('a', 1, 'a')",
		"select id+1, -id, (1+2)*id, 'it''s' from t limit 1":  "1 [id + 1|-(id)|(1 + 2) * id|'it''s'] (2, -1, 3, 'it''s')",
		"select id,id,id,id,id,id,id,id from t limit 1":       "1 [id|id|id|id|id|id|id|id] (1, 1, 1, 1, 1, 1, 1, 1)",
		"select length( s ),case when b then 1 end from t":    "3 [length(s)|case when b then 1 end] (1, 1) (1, null) (1, null)",
		"select * from t where false":                         "0 [id|s|n|b]",
		"select id + 1 from t where false":                    "0 [id + 1]",
		"select * from t limit 0":                             "0 [id|s|n|b]",
		"select null, true, 5 from t where id = 2":            "1 [null|true|5] (null, true, 5)",
		"select id = 1, n is null, s || s from t where n = 7": "1 [id = 1|n is null|s || s] (false, false, 'cc')",
	} {
		k.runs(0, s, want)
	}
	k.runs(0, "alter table t add c int", "0")
	k.runs(0, "select * from t where id = 1", "1 [id|s|n|b|c] (1, 'a', null, true, null)")
}

// dense is a desk with rows of which several have the same values.
func dense(t *testing.T) *desk {
	k := bare(t)
	k.runs(0, "create table t (id int key, n int, s text, b bool)", "0")
	x := k.begin()
	k.runs(x, "insert into t values (6, 2, 'b', true), (5, null, 'a', false), (4, 1, 'b'), (3, 2, '', true), (2, null, 'ab', false), (1, 1, null, true)", "6")
	k.commit(x)
	return k
}

func TestQ8Order(t *testing.T) {
	k := dense(t)
	for s, want := range map[string]string{
		"":                             "(1) (2) (3) (4) (5) (6)",
		"order by id":                  "(1) (2) (3) (4) (5) (6)",
		"order by id desc":             "(6) (5) (4) (3) (2) (1)",
		"order by n":                   "(2) (5) (1) (4) (3) (6)", // nulls first; the same by rising keys
		"order by n desc":              "(3) (6) (1) (4) (2) (5)", // and so with desc
		"order by s":                   "(1) (3) (5) (2) (4) (6)",
		"order by s desc":              "(4) (6) (2) (5) (3) (1)",
		"order by b":                   "(4) (2) (5) (1) (3) (6)",
		"order by b desc":              "(1) (3) (6) (2) (5) (4)",
		"order by null":                "(1) (2) (3) (4) (5) (6)",
		"order by null desc":           "(1) (2) (3) (4) (5) (6)",
		"order by 1":                   "(1) (2) (3) (4) (5) (6)",
		"order by -id":                 "(6) (5) (4) (3) (2) (1)",
		"order by id % 3":              "(3) (6) (1) (4) (2) (5)",
		"order by id % 3 desc":         "(2) (5) (1) (4) (3) (6)",
		"order by n is null":           "(1) (3) (4) (6) (2) (5)",
		"order by length(s)":           "(1) (3) (4) (5) (6) (2)",
		"where id > 2 order by n":      "(5) (4) (3) (6)",
		"where id > 2 order by n desc": "(3) (6) (4) (5)",
		"order by n limit 3":           "(2) (5) (1)",
		"order by n desc limit 3":      "(3) (6) (1)",
		"where n = 2 order by n":       "(3) (6)",
	} {
		a := parsed(t, "select id from t "+s).Run(k.s, 0)
		got := ""
		for _, r := range a.Rows {
			got += " " + rowText(r)
		}
		if got != " "+want || a.Count != len(a.Rows) || a.Code != api.OK {
			t.Errorf("%s: %d, %d rows:%s, want %s", s, a.Code, a.Count, got, want)
		}
	}
}

func TestQ8Limit(t *testing.T) {
	k := dense(t)
	for s, want := range map[string]string{
		"limit 0": "0 [id]", "limit 1": "1 [id] (1)", "limit 02": "2 [id] (1) (2)", "limit 6": "6 [id] (1) (2) (3) (4) (5) (6)", "limit 7": "6 [id] (1) (2) (3) (4) (5) (6)", "limit 999999999": "6 [id] (1) (2) (3) (4) (5) (6)", "where n = 2 limit 1": "1 [id] (3)", "where n = 2 limit 5": "2 [id] (3) (6)", "order by id desc limit 2": "2 [id] (6) (5)", "where false limit 5": "0 [id]", "order by n limit 0": "0 [id]",
	} {
		k.runs(0, "select id from t "+s, want)
	}
}

// TestQ8FirstError: all conditions, then all values of the order, then the list of those within the limit; by rows, then by expressions.
func TestQ8FirstError(t *testing.T) {
	const zero, far = api.ErrExprZero, api.ErrExprRange
	k := dense(t)
	for s, e := range map[string]api.Errno{
		"select 1 / 0 from t":                                                    zero,
		"select id from t order by 1 / 0":                                        zero,
		"select 1 / 0 from t order by substr(s, 0, 1)":                           far,
		"select substr(s, 0, 1) from t order by 1 / (id - 6)":                    zero,
		"select substr(s, 0, 1) from t where id = 3 order by 1 / (id - 3)":       zero,
		"select 1 / 0 from t where substr('x', 6 - id, 1) = 'x'":                 far,
		"select id from t where substr('x', 6 - id, 1) = 'x' order by 1 / 0":     far,
		"select 1 / (id - 2), substr('x', id - 1, 1) from t":                     far,
		"select 1 / (id - 1), substr('x', id - 1, 1) from t":                     zero,
		"select substr('x', id - 1, 1), 1 / (id - 1) from t":                     far,
		"select 1 / (id - 1), substr('x', 6 - id, 1) from t order by id desc":    far,
		"select 1 / (id - 6), substr('x', id - 1, 1) from t order by id desc":    zero,
		"select id from t order by 1 / (id - 6) limit 0":                         zero,
		"select id from t where 1 / (id - 6) = 1 limit 0":                        zero,
		"select id from t where 1 / (id - 6) = 1 order by id limit 1":            zero,
		"select 1 / (id - 3) from t limit 3":                                     zero,
		"select 1 / (id - 5) from t order by n limit 2":                          zero,
		"select id from t order by case when id = 2 then 1 / 0 else n / 0 end":   zero,
		"select abs(n + 9223372036854775806) from t where n = 2 order by n":      far,
		"select id from t where id = 2 and 1 / (id - 2) = 1 or id = 3 and 1 = 1": zero,
	} {
		k.failsIdly(0, s, e)
	}
	// Rows beyond the limit are not worked out for the list.
	k.runs(0, "select 1 / 0 from t limit 0", "0 [1 / 0]")
	k.runs(0, "select 6 / (id - 3) from t limit 2", "2 [6 / (id - 3)] (-3) (-6)")
	k.runs(0, "select 6 / (id - 1) from t order by id desc limit 5", "5 [6 / (id - 1)] (1) (1) (2) (3) (6)")
	k.runs(0, "select 1 / (id - 1) from t where id > 4", "2 [1 / (id - 1)] (0) (0)")
	k.runs(0, "select id from t where id = 1 order by 1 / id", "1 [id] (1)")
}

func TestQ8Where(t *testing.T) {
	k := dense(t)
	x := k.begin()
	k.runs(x, "delete from t where id = 1", "1")
	k.runs(x, "insert into t values (0, 3)", "1")
	k.runs(x, "select id, n from t where n >= 2 order by n desc", "3 [id|n] (0, 3) (3, 2) (6, 2)")
	k.runs(0, "select id, n from t where n >= 2 order by n desc", "2 [id|n] (3, 2) (6, 2)")
	k.runs(0, "select n from t where id = 1", "1 [n] (1)")
}
