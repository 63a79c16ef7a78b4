package query_test

import (
	"strings"
	"testing"

	"confluence/api"
	"confluence/query"
)

func TestQ2KindAndName(t *testing.T) {
	for i, c := range [][2]string{ // in the order of the kinds
		{"create table t (a int key)", ""}, {"drop table t", ""}, {"alter table t add c int", ""}, {"truncate t", ""}, {"insert into t values (1)", ""}, {"update t set a = 1", ""}, {"delete from t", ""}, {"select * from t", ""},
		{"begin", ""}, {"commit", ""}, {"rollback", ""}, {"savepoint one", "one"}, {"rollback to two", "two"}, {"release three", "three"}, {"prepare 'four'", "four"}, {"commit prepared 'five'", "five"}, {"rollback prepared 'six'", "six"},
	} {
		q := parsed(t, c[0])
		if q.Kind() != i+1 || q.Name() != c[1] {
			t.Errorf("%s is of the kind %d, and its name is %q, want %d, %q", c[0], q.Kind(), q.Name(), i+1, c[1])
		}
	}
	if q := parsed(t, "savepoint abcdefghijklmnop"); q.Name() != "abcdefghijklmnop" {
		t.Errorf("a long name is %q", q.Name())
	}
}

// TestQ2Blanks: each form with as few blanks as there may be, and with many.
func TestQ2Blanks(t *testing.T) {
	wantPrint(t,
		"create table t(a int key,b text not null,c bool)", "create table t (a int key, b text not null, c bool)",
		"  create  table  t  (  a  int  ,  b  text  key  )  ", "create table t (a int, b text key)",
		"  drop  table  t  ", "drop table t", " alter  table  t  add  c  bool ", "alter table t add c bool", "  truncate  t ", "truncate t",
		"insert into t values(-1,'a  b',null),(true)", "insert into t values (-1, 'a  b', null), (true)",
		"insert  into  t  values  (  -  1  ,  'a'  )  ,  (  2  )  ", "insert into t values (-1, 'a'), (2)",
		"update t set a=1,b=a+1where c", "update t set a = 1, b = a + 1 where c", "update  t  set  a  =  1  ,  b  =  c  where  d  ", "update t set a = 1, b = c where d",
		"delete from t where(a)", "delete from t where a", " delete  from  t  where  a  =  1 ", "delete from t where a = 1",
		"select*from t where(a)order by(b)desc limit 5", "select * from t where a order by b desc limit 5",
		"  select  a  ,  b  from  t  where  c  order  by  d  desc  limit  007  ", "select a, b from t where c order by d desc limit 7",
		"  rollback  to  a  ", "rollback to a", "  prepare  'a'  ", "prepare 'a'", "  commit  prepared  'a'", "commit prepared 'a'", "rollback prepared'a'", "rollback prepared 'a'",
	)
}

// TestQ2Exprs: brackets go and come as layer 11 has it.
func TestQ2Exprs(t *testing.T) {
	wantPrint(t,
		"select ((a)), (1+2)*3, -a, - 5, not(a=b) from t", "select a, (1 + 2) * 3, -(a), -5, not a = b from t", "select case when(a)then(b)end from t", "select case when a then b end from t",
		"delete from t where ((a=1)or(b=2))and(c)", "delete from t where (a = 1 or b = 2) and c", "select a from t order by ((a))", "select a from t order by a",
		"update t set a=((b)),c=-(5) where(((d)))", "update t set a = b, c = -(5) where d", "select a from t where a in((1),(2))", "select a from t where a in (1, 2)",
	)
}

// TestQ2MayBeNone: where what is printed is no statement any more.
func TestQ2MayBeNone(t *testing.T) {
	// One of the words that end an EXPR stood within brackets that are not printed.
	for _, w := range []string{"from", "where", "order", "limit", "desc"} {
		for _, s := range []string{"select (" + w + ") from t", "select a + (" + w + ") from t", "select a from t where (" + w + ") = 1", "update t set a = (" + w + ")", "select a from t order by (" + w + ") desc"} {
			p := parsed(t, s).Print()
			if q, e, _ := query.Parse(p); q != nil || e == api.OK {
				t.Errorf("%s is printed as %s, which is a statement", s, p)
			}
		}
	}
	// An EXPR is printed with more than 400 bytes.
	long := "coalesce(" + many(150, "a") + ")"
	p := parsed(t, "delete from t where "+strings.ReplaceAll(long, " ", "")).Print()
	if p != "delete from t where "+long {
		t.Errorf("a long one is printed as %s", p)
	}
	wantRefused(t, p, api.ErrExprForm, 420)
	// It has more than 1000 bytes.
	long = "coalesce(" + many(60, "a") + ")"
	p = parsed(t, "select "+strings.ReplaceAll(many(7, long), " ", "")+" from t").Print()
	if p != "select "+many(7, long)+" from t" {
		t.Errorf("a long one is printed as %s", p)
	}
	wantRefused(t, p, api.ErrQueryLong, 0)
}

// TestQ2Random: statements of all kinds are printed as the words of Q2 say.
func TestQ2Random(t *testing.T) {
	g := seeded(1211)
	for range 20000 {
		x := g.statement()
		s := g.spaced(x.pieces())
		q := parsed(t, s)
		if q.Print() != x.printed() || q.Kind() != x.kind || q.Name() != x.name {
			t.Fatalf("%q is printed as %q, want %q; it is %d, %q, want %d, %q", s, q.Print(), x.printed(), q.Kind(), q.Name(), x.kind, x.name)
		}
	}
}

// TestQ2PrintedAndRead: what is printed, if it is a statement, prints likewise; if it is none, the reasons are those that are told.
func TestQ2PrintedAndRead(t *testing.T) {
	g := seeded(1212)
	again, none := 0, 0
	for range 30000 {
		s := g.spaced(g.statement().pieces())
		if g.once(2) {
			s = g.spoilt(s)
		}
		q, e, _ := query.Parse(s)
		if e != api.OK {
			continue
		}
		p := q.Print()
		r, e, _ := query.Parse(p)
		switch {
		case e != api.OK && !strings.Contains(s, "(from") && !strings.Contains(s, "(where") && !strings.Contains(s, "(order") && !strings.Contains(s, "(limit") && !strings.Contains(s, "(desc"):
			t.Fatalf("%q is printed as %q, which is no statement: %d", s, p, e)
		case e != api.OK:
			none++
		case r.Print() != p || r.Kind() != q.Kind() || r.Name() != q.Name():
			t.Fatalf("%q is printed as %q, and that as %q", s, p, r.Print())
		default:
			again++
		}
	}
	if again < 10000 || none < 20 {
		t.Errorf("%d were statements again, %d were not", again, none)
	}
}
