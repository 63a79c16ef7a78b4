package query_test

import (
	"fmt"
	"testing"

	"confluence/api"
)

func TestQ4Create(t *testing.T) {
	k := bare(t)
	k.runs(0, "create table t (id int key, s text, n int not null, b bool)", "0")
	k.runs(0, "create table u (a bool not null, b int, c text key)", "0")
	if got, want := k.tables(), "t 1.1 id:1! s:2? n:1 b:3?;u 2.1 a:3 b:1? c:2!;"; got != want {
		t.Errorf("the tables are %s, want %s", got, want)
	}
	k.crash()
	if got, want := k.tables(), "t 1.1 id:1! s:2? n:1 b:3?;u 2.1 a:3 b:1? c:2!;"; got != want {
		t.Errorf("behind a crash the tables are %s, want %s", got, want)
	}
	k.failsIdly(0, "create table t (id int key)", api.ErrTableThere)
	k.failsIdly(0, "create table t (id bool key)", api.ErrTableThere)
	k.failsIdly(0, "create table w (id bool key)", api.ErrColumnKey)
	k.failsIdly(0, "create table w (id int key, id text)", api.ErrColumnThere)
	k.failsIdly(0, "create table w (id bool key, id text)", api.ErrColumnThere)
	for i := range 14 {
		k.runs(0, fmt.Sprintf("create table t%d (a int key, b int, c int, d int, e int, f int, g int, h int)", i), "0")
	}
	k.failsIdly(0, "create table w (id int key)", api.ErrTableMany)
	k.failsIdly(0, "create table t (id int key)", api.ErrTableThere)
	k.failsIdly(0, "create table w (id bool key)", api.ErrTableMany)
}

func TestQ4Drop(t *testing.T) {
	k := newDesk(t)
	k.failsIdly(0, "drop table u", api.ErrTableNone)
	x := k.begin()
	k.runs(x, "insert into t values (4)", "1")
	k.failsIdly(0, "drop table u", api.ErrTableNone)
	k.failsIdly(0, "drop table t", api.ErrStoreWritten)
	k.commit(x)
	k.runs(0, "drop table t", "0")
	k.failsIdly(0, "drop table t", api.ErrTableNone)
	k.failsIdly(0, "select * from t", api.ErrTableNone)
	k.crash()
	if got := k.tables(); got != "" {
		t.Errorf("the tables are %s", got)
	}
}

func TestQ4Widen(t *testing.T) {
	k := newDesk(t)
	k.failsIdly(0, "alter table u add c int", api.ErrTableNone)
	k.runs(0, "alter table t add c text", "0")
	if got, want := k.tables(), "t 1.2 id:1! s:2? n:1? b:3? c:2?;"; got != want {
		t.Errorf("the tables are %s, want %s", got, want)
	}
	k.runs(0, "select * from t where id = 2", "1 [id|s|n|b|c] (2, 'b', 5, false, null)")
	k.failsIdly(0, "alter table t add s int", api.ErrColumnThere)
	x := k.begin()
	k.runs(x, "update t set c = 'x' where id = 1", "1")
	k.failsIdly(0, "alter table t add s int", api.ErrColumnThere)
	k.failsIdly(0, "alter table t add d int", api.ErrStoreWritten)
	k.commit(x)
	for _, c := range []string{"d bool", "e int", "f text"} {
		k.runs(0, "alter table t add "+c, "0")
	}
	k.failsIdly(0, "alter table t add g int", api.ErrColumnMany)
	k.failsIdly(0, "alter table t add s int", api.ErrColumnMany)
	k.runs(0, "select * from t where id = 1", "1 [id|s|n|b|c|d|e|f] (1, 'a', null, true, 'x', null, null, null)")
}

func TestQ4Empty(t *testing.T) {
	k := newDesk(t)
	k.failsIdly(0, "truncate u", api.ErrTableNone)
	x, y := k.begin(), k.begin()
	k.runs(x, "delete from t where id = 1", "1")
	k.failsIdly(0, "truncate t", api.ErrStoreWritten)
	k.ok(k.s.Abort(x))
	k.runs(0, "truncate t", "0")
	k.runs(y, "select * from t", "0 [id|s|n|b]")
	k.runs(0, "truncate t", "0")
	k.runs(y, "insert into t values (1)", "1")
}

func TestQ5Insert(t *testing.T) {
	k := newDesk(t)
	x := k.begin()
	k.runs(x, "insert into t values (4, 'd', -1, false)", "1")
	k.runs(x, "insert into t values (9), (8, null), (7, 'it''s', null, null)", "3")
	k.sees(x, "t", "(1, 'a', null, true) (2, 'b', 5, false) (3, 'c', 7, null) (4, 'd', -1, false) (7, 'it''s', null, null) (8, null, null, null) (9, null, null, null)")
	k.failsIdly(x, "insert into u values (1)", api.ErrTableNone)
	k.failsIdly(x, "insert into t values (null)", api.ErrRowFit)
	k.failsIdly(x, "insert into t values ('1')", api.ErrRowFit)
	k.failsIdly(x, "insert into t values (11, 5)", api.ErrRowFit)
	k.failsIdly(x, "insert into t values (11, 'a', 1, true, 5)", api.ErrRowFit)
	k.failsIdly(x, "insert into t values (1)", api.ErrRowThere)
	k.failsIdly(x, "insert into t values (1), (null), (20)", api.ErrRowThere)
	k.failsIdly(x, "insert into t values (null), (1), (20)", api.ErrRowFit)
	// row by row: the first error ends it, and what was ahead of it stays
	k.fails(x, "insert into t values (20), (21), (20), (22)", api.ErrRowThere)
	k.fails(x, "insert into t values (30), ('x'), (31)", api.ErrRowFit)
	k.runs(x, "select id from t where id >= 20", "3 [id] (20) (21) (30)")
	y := k.begin()
	k.fails(y, "insert into t values (50), (20), (51)", api.ErrRowConflict)
	k.runs(y, "select id from t where id >= 20", "1 [id] (50)")
	k.runs(x, "insert into t values (100), (101), (102), (103), (104), (105), (106), (107), (108), (109), (110), (111), (112), (113), (114), (115)", "16")
	k.ok(k.s.Savepoint(x, "a"))
	k.runs(x, "insert into t values (200)", "1")
	k.ok(k.s.RollbackTo(x, "a"))
	k.runs(x, "select id from t where id >= 114", "2 [id] (114) (115)")
}
