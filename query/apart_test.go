package query_test

import (
	"fmt"
	"reflect"
	"strings"
	"sync"
	"testing"
	"unsafe"

	"confluence/api"
	"confluence/query"
)

// spoil writes over all that an answer has, and its spare room.
func spoil(a api.Answer) {
	for _, r := range a.Rows {
		spoilRow(r)
	}
	rows := a.Rows[:cap(a.Rows)]
	for i := range rows {
		rows[i] = nil
	}
	names := a.Names[:cap(a.Names)]
	for i := range names {
		names[i] = "spoilt"
	}
}

func spoilRow(r api.Row) {
	r = r[:cap(r)]
	for i := range r {
		r[i] = v("spoilt")
	}
}

// TestAnswersAreNew: what comes out may be written over: neither the store nor the statement, nor another answer, has it.
func TestAnswersAreNew(t *testing.T) {
	k := newDesk(t)
	x := k.begin()
	for _, s := range []string{"select * from t", "select * from t order by n desc", "select * from t where id > 1 limit 1", "select s, id, s from t", "select 'a', s || s, null from t order by s", "select 'text' from t limit 2", "select id from t limit 0", "insert into t values (7)"} {
		q, same := parsed(t, s), parsed(t, s)
		a := q.Run(k.s, x)
		want := told(t, a)
		for i, r := range a.Rows {
			was := fmt.Sprint(a.Rows[:i], a.Rows[i+1:])
			spoilRow(r)
			if fmt.Sprint(a.Rows[:i], a.Rows[i+1:]) != was {
				t.Errorf("%s: two rows share memory", s)
			}
		}
		b := q.Run(k.s, 0)
		spoil(a)
		if !reflect.DeepEqual(q, same) {
			t.Errorf("%s has changed", s)
		}
		if strings.HasPrefix(s, "select") {
			if told(t, b) != want || k.run(x, s) != want {
				t.Errorf("%s: %s, and %s, want %s", s, told(t, b), k.run(x, s), want)
			}
		}
	}
	k.sees(x, "t", "(1, 'a', null, true) (2, 'b', 5, false) (3, 'c', 7, null) (7, null, null, null)")
	if got, want := k.tables(), "t 1.1 id:1! s:2? n:1? b:3?;"; got != want {
		t.Errorf("the tables are %s, want %s", got, want)
	}
}

// shares tells whether two texts lie in one memory.
func shares(a, b string) bool {
	from, to := uintptr(unsafe.Pointer(unsafe.StringData(a))), uintptr(unsafe.Pointer(unsafe.StringData(b)))
	return a != "" && b != "" && from < to+uintptr(len(b)) && to < from+uintptr(len(a))
}

// TestTextIsNotKept: nothing of a statement, nor of what it made, lies in the text that it was read from.
func TestTextIsNotKept(t *testing.T) {
	k := bare(t)
	keeps := func(text string, l ...string) {
		for _, s := range l {
			if shares(s, text) {
				t.Errorf("of %s is kept %s", text, s)
			}
		}
	}
	for _, s := range []string{"savepoint first", "rollback to first", "release first", "prepare 'first'", "commit prepared 'first'", "rollback prepared 'first'", "begin", "drop table first", "select first, second from third where fourth order by fifth"} {
		s = strings.Clone(s) // apart from the program's own texts
		q := parsed(t, s)
		keeps(s, q.Name(), q.Print())
	}
	create, widen, insert := "create table things (number int key, word text)", "alter table things add another bool", "insert into things values (1, 'a longer text'), (2, 'another')"
	k.runs(0, create, "0")
	k.runs(0, widen, "0")
	x := k.begin()
	k.runs(x, insert, "2")
	for _, in := range k.s.Tables() {
		keeps(create, in.Name)
		for _, c := range in.Columns {
			keeps(create, c.Name)
			keeps(widen, c.Name)
		}
	}
	for r := range k.s.Scan(x, "things") {
		keeps(insert, r[1].S)
	}
	choose := "select word, 'literal', number + 1 from things"
	a := parsed(t, choose).Run(k.s, x)
	for _, r := range a.Rows {
		keeps(choose, r[0].S, r[1].S)
	}
	keeps(choose, a.Names...)
	if s := strings.Repeat("x", 9); !shares(s, s[3:5]) || shares(s, strings.Clone(s)) {
		t.Error("what texts share is told wrongly")
	}
}

// TestStatementsStay: a statement may be run again and again, in any store; nothing that it does changes it.
func TestStatementsStay(t *testing.T) {
	g := seeded(1281)
	k := newDesk(t)
	x := k.begin()
	for range 2000 {
		s := g.spaced(g.statement().pieces())
		q, same := parsed(t, s), parsed(t, s)
		p := q.Print()
		for range 3 {
			q.Run(k.s, pick(g, 0, x, 99))
			q.Kind()
			q.Name()
		}
		if !reflect.DeepEqual(q, same) || q.Print() != p {
			t.Fatalf("%q has changed", s)
		}
		if k.tables() == "" || k.s.Active() == nil {
			k = newDesk(t)
			x = k.begin()
		}
	}
	a, b := newDesk(t), newDesk(t)
	y, z := a.begin(), b.begin()
	q := parsed(t, "insert into t values (10, 'x'), (11)")
	for _, c := range []string{told(t, q.Run(a.s, y)), told(t, q.Run(b.s, z))} {
		if c != "2" {
			t.Errorf("one statement in two stores: %s", c)
		}
	}
	if c := told(t, q.Run(a.s, y)); c != "error 91" {
		t.Errorf("once more: %s", c)
	}
	a.runs(y, "update t set s = 'y' where id = 10", "1")
	b.runs(z, "select s from t where id = 10", "1 [s] ('x')")
}

// TestSideBySide: several goroutines may read texts and one statement, and ask one store, at a time.
func TestSideBySide(t *testing.T) {
	k := newDesk(t)
	q := parsed(t, "select id, s || 'x' from t where n > 1 order by id desc limit 5")
	var all sync.WaitGroup
	for range 8 {
		all.Go(func() {
			for range 100 {
				again, e, _ := query.Parse(q.Print())
				if e != api.OK || again.Print() != q.Print() || told(t, q.Run(k.s, 0)) != "2 [id|s || 'x'] (3, 'cx') (2, 'bx')" || again.Kind() != query.Select {
					t.Errorf("one of several says %d, %s", e, told(t, q.Run(k.s, 0)))
				}
			}
		})
	}
	all.Wait()
}

// TestGreat: many rows, in little time.
func TestGreat(t *testing.T) {
	k := bare(t)
	k.runs(0, "create table t (id int key, n int, s text)", "0")
	x := k.begin()
	for i := range 300 {
		var l []string
		for j := range 16 {
			l = append(l, fmt.Sprintf("(%d, %d, 'row')", i*16+j, (i*16+j)*7919%4800))
		}
		k.runs(x, "insert into t values "+strings.Join(l, ", "), "16")
	}
	k.runs(x, "select id from t order by n desc limit 3", k.run(x, "select id from t where n > 4796 order by n desc"))
	k.runs(x, "update t set n = id where n % 2 = 0", "2400")
	k.runs(x, "delete from t where id < 4790", "4790")
	k.runs(x, "select id from t where id > 4797", "2 [id] (4798) (4799)")
}
