package query_test

import (
	"strings"
	"testing"

	"confluence/api"
)

func TestQ1Examples(t *testing.T) {
	wantPrint(t, "select  name,id+1 from t where id>=2 order by name desc limit 03", "select name, id + 1 from t where id >= 2 order by name desc limit 3")
	wantStuck(t, stuck{"create table t (a int)", 21}, stuck{"insert into t values (1,)", 24}, stuck{"drop table T", 11}, stuck{"selec", 0}, stuck{"begin x", 6}, stuck{"prepare 'a b'", 8}, stuck{"", 0})
}

// everyForm has each form of the table, with and without what may be missing in it.
var everyForm = []string{
	"create table t (a int key)",
	"create table t (a text key, b bool not null, c int)",
	"create table t (a bool, b int not null, c text key, d text)",
	"drop table t",
	"alter table t add c int",
	"alter table t add c text",
	"alter table t add c bool",
	"truncate t",
	"insert into t values (1)",
	"insert into t values (-1, 'a', null), (true), (false, 0)",
	"update t set a = 1",
	"update t set a = b + 1, c = null",
	"update t set a = 1 where b",
	"update t set a = 1, b = 2, c = 'x' where a = 1 or b in (1, 2)",
	"delete from t",
	"delete from t where a = 1",
	"select * from t",
	"select a from t",
	"select a, b + 1, length(c) from t",
	"select * from t where a",
	"select * from t order by a",
	"select * from t order by a desc",
	"select * from t limit 5",
	"select * from t where a order by b",
	"select * from t where a order by b desc",
	"select * from t where a limit 5",
	"select * from t order by b limit 5",
	"select * from t order by b desc limit 5",
	"select * from t where a order by b limit 5",
	"select a, b from t where c = 'x' order by d || e desc limit 5",
	"begin", "commit", "rollback",
	"savepoint a", "rollback to a", "release a",
	"prepare 'a'", "commit prepared 'a'", "rollback prepared 'a'",
}

func TestQ1EveryForm(t *testing.T) { wantSame(t, everyForm...) }

// TestQ1EndsTooEarly: a text that ends ahead of a token of a form: its end is told, blanks behind it too.
func TestQ1EndsTooEarly(t *testing.T) {
	for _, s := range []string{
		"create", "create table", "create table t", "create table t (", "create table t (a", "create table t (a int", "create table t (a int key", "create table t (a int not", "create table t (a int not null", "create table t (a int key,", "create table t (a int key, b",
		"drop", "drop table", "alter", "alter table", "alter table t", "alter table t add", "alter table t add c", "truncate",
		"insert", "insert into", "insert into t", "insert into t values", "insert into t values (", "insert into t values (1", "insert into t values (-", "insert into t values (1,", "insert into t values (1),",
		"update", "update t", "update t set", "update t set a", "update t set a =", "update t set a = 1,", "update t set a = 1, b", "update t set a = 1, b =", "update t set a = 1 where",
		"delete", "delete from", "delete from t where",
		"select", "select a", "select a,", "select a, b", "select a from", "select * from", "select a from t where", "select a from t order", "select a from t order by", "select a from t limit", "select a from t where a order", "select a from t where a order by", "select a from t order by a limit", "select a from t order by a desc limit",
		"savepoint", "rollback to", "release", "prepare", "commit prepared", "rollback prepared",
	} {
		wantStuck(t, stuck{s, len(s)}, stuck{s + " ", len(s) + 1}, stuck{"  " + s + "    ", len(s) + 6})
	}
	wantStuck(t, stuck{"", 0}, stuck{" ", 1}, stuck{"     ", 5}, stuck{strings.Repeat(" ", 1000), 1000})
}

// endsInExpr tells whether the last part of a form is an EXPR.
func endsInExpr(s string) bool {
	last := s[max(strings.LastIndex(s, " = "), strings.LastIndex(s, "where "), strings.LastIndex(s, "by "), 0):]
	return last != s && !strings.Contains(last, "desc") && !strings.Contains(last, "limit")
}

// TestQ1TokenTooMany: of each form, whatever the token is.
func TestQ1TokenTooMany(t *testing.T) {
	for _, s := range everyForm {
		for _, more := range []string{"x", "(", ")", ";", "5", "'x'", "'", "key", "table", "\xff", "set", "add"} {
			if endsInExpr(s) {
				continue // it goes on
			}
			wantStuck(t, stuck{s + " " + more, len(s) + 1}, stuck{s + "  " + more + " x", len(s) + 2})
		}
		wantStuck(t, stuck{s + ")", len(s)}, stuck{s + " ) x", len(s) + 1}, stuck{s + " 'x", len(s) + 1})
	}
	wantStuckAt(t,
		"begin ^,", "begin^;", "begin^\n", "begin ^begin", "drop table t^.u", "truncate t ^u", "truncate t^,u", "drop table t ^drop table u",
		"delete from t ^order by a", "delete from t ^limit 1", "delete from t ^set a = 1", "delete from t where a ^order by b", "delete from t where a ^where b", "update t set a = 1 ^limit 1", "update t set a = 1 ^from u", "update t set a = 1 ^desc", "update t set a = 1 where b^, c = 2",
		"select a from t^, u", "select a from t ^desc", "select a from t where a ^desc", "select a from t where a ^from t", "select a from t where a ^where b", "select a from t where a^, b", "select a from t order by a^, b", "select a from t order by a ^where b", "select a from t order by a ^order by b", "select a from t order by a desc ^desc", "select a from t order by a desc^, b", "select a from t limit 1 ^limit 1", "select a from t limit 1 ^order by b", "select a from t limit 1^, 2", "select a ^where b", "select a ^order by b", "select a ^limit 1", "select a ^desc from t",
		"alter table t add c int ^key", "alter table t add c int ^not null", "alter table t add c int^, d int", "insert into t values (1) ^(2)", "insert into t values (1) ^values (2)", "create table t (a int key)^,", "create table t (a int key) ^(b int)",
		"savepoint a ^b", "rollback to a^, b", "release a ^release a", "prepare 'a' ^'b'", "commit prepared 'a'^, 'b'", "rollback prepared 'a' ^to", "rollback ^a", "rollback ^savepoint a", "commit ^a", "commit ^'a'", "rollback ^'a'", "commit ^to a", "begin ^prepared 'a'",
	)
}

func TestQ1Length(t *testing.T) {
	wantPrint(t, "begin"+strings.Repeat(" ", 995), "begin", strings.Repeat(" ", 995)+"begin", "begin", strings.Repeat(" ", 500)+"begin"+strings.Repeat(" ", 495), "begin")
	for _, s := range []string{"begin", "selec", "", "'", "insert into t values (05)", "select ) from t", "drop table T"} {
		for _, blank := range []string{" ", "x", "(", "'", "\x00"} {
			wantRefused(t, s+strings.Repeat(blank, 1001-len(s)), api.ErrQueryLong, 0)
			wantRefused(t, strings.Repeat(blank, 1001-len(s))+s, api.ErrQueryLong, 0)
			wantRefused(t, strings.Repeat(blank, 1<<16)+s, api.ErrQueryLong, 0)
		}
	}
	wantStuck(t, stuck{"begin" + strings.Repeat(" ", 994) + "x", 999}, stuck{"drop table" + strings.Repeat(" ", 990), 1000}, stuck{strings.Repeat("x", 1000), 0}, stuck{"'" + strings.Repeat("x", 999), 0}, stuck{strings.Repeat("(", 1000), 0})
	wantRefused(t, "delete from t where "+strings.Repeat("(", 980), api.ErrExprForm, 420)
	long := "insert into t values ('" + strings.Repeat("x", 200) + "', '" + strings.Repeat("y", 200) + "', '" + strings.Repeat("z", 200) + "', '" + strings.Repeat("w", 200) + "')"
	full := long + strings.Repeat(" ", 1000-len(long))
	wantPrint(t, full, long)
	wantRefused(t, full+" ", api.ErrQueryLong, 0)
}

func TestQ1Words(t *testing.T) {
	wantStuckAt(t,
		"^BEGIN", "^Begin", "^begins", "^begin1", "^begin_", "^selec", "^5", "^'begin'", "^_begin", "^-", "^(begin)", "^;", "^\xff", "^\x00", " ^Begin", "^from", "^table", "^where", "^prepared", "^to", "^key", "^null", "^truncate_t", "^'begin",
		"create ^tables t (a int key)", "create ^t (a int key)", "create ^TABLE t", "create table t ^a int key", "create table t ^[a int key]", "drop ^t", "drop ^tablet", "alter ^t add c int", "alter table t ^drop c", "alter table t ^c int", "insert ^t values (1)", "insert ^int t values (1)", "insert into t ^(1)", "insert into t ^value (1)", "insert into t values ^1", "insert into t values ^select",
		"update t ^a = 1", "update t set a ^1", "update t set a ^:= 1", "update t set a ^<= 1", "update t set a ^(b) = 1", "delete ^t", "delete ^where a", "delete from t ^when a", "delete from t ^wherea", "select a from t ^order_by a", "select a from t order ^a", "select a from t order ^bya", "select a from t ^limit1", "select a from t ^orderby a", "select a ^)from t", "select a from ^(t)",
		"rollback ^too a", "rollback ^t", "commit ^prepare 'a'", "rollback ^prepare 'a'",
	)
	wantPrint(t,
		"create table t(a int key)", "create table t (a int key)", "insert into t values(1)", "insert into t values (1)", "select*from t", "select * from t", "select(a)from t", "select a from t", "select'a'from t", "select 'a' from t", "select-1from t", "select -1 from t",
		"delete from t where(a)", "delete from t where a", "prepare'a'", "prepare 'a'", "commit prepared'a'", "commit prepared 'a'", "update t set a=1where b", "update t set a = 1 where b", "select 1from t limit 5", "select 1 from t limit 5",
		"select a from t where'x'order by'y'limit 5", "select a from t where 'x' order by 'y' limit 5", "select a from t order by(a)desc limit 5", "select a from t order by a desc limit 5", "update t set a=-1", "update t set a = -1", "select a from t order by 1desc", "select a from t order by 1 desc",
	)
}

// TestQ1Blanks: no other byte is one.
func TestQ1Blanks(t *testing.T) {
	for _, b := range []string{"\t", "\n", "\r", "\v", "\f", "\x00", "\u00a0", "\u2003", "\x85", "\x1f", "!"} {
		wantStuck(t, stuck{b, 0}, stuck{"begin" + b, 5}, stuck{b + "begin", 0}, stuck{"drop" + b + "table t", 4}, stuck{"drop table t " + b, 13}, stuck{"insert into t values (1," + b + "2)", 24}, stuck{"select a from" + b + "t", 13})
		wantRefused(t, "select a"+b+" from t", api.ErrExprForm, 8)
	}
	wantPrint(t, "   begin", "begin", "begin   ", "begin", "  rollback    to   a  ", "rollback to a")
}

// noNames are words that are no names, and what is no word.
var noNames = []string{"abcdefghijklmnopq", "a1234567890123456", "a________________", "T", "_a", "1", "1a", "'a'", "-", "(", ")", ",", "=", "*", "\xff", "é", "'", "\"a\"", "Ab"}

// namePlaces are all places of forms where a NAME stands: what stands ahead of it, and behind.
var namePlaces = [][2]string{
	{"create table ", " (a int key)"}, {"create table t (", " int key)"}, {"create table t (a int key, ", " int)"}, {"drop table ", ""}, {"alter table ", " add c int"}, {"alter table t add ", " int"}, {"truncate ", ""}, {"insert into ", " values (1)"},
	{"update ", " set a = 1"}, {"update t set ", " = 1"}, {"update t set a = 1, ", " = 1"}, {"delete from ", ""}, {"delete from ", " where a"}, {"select * from ", ""}, {"select a from ", " limit 1"}, {"savepoint ", ""}, {"rollback to ", ""}, {"release ", ""},
}

func TestQ1Names(t *testing.T) {
	for _, p := range namePlaces {
		for _, name := range []string{"z", "a0", "a_", "abcdefghijklmnop", "a123456789012345", "a_______________", "from", "where", "order", "limit", "desc", "table", "key", "null", "set", "select", "and", "prepared", "to", "int", "values"} {
			wantSame(t, p[0]+name+p[1])
		}
		for _, name := range noNames {
			wantStuck(t, stuck{p[0] + name + p[1], len(p[0])}, stuck{p[0] + "  " + name, len(p[0]) + 2})
		}
		wantStuck(t, stuck{p[0] + strings.Repeat("x", 900), len(p[0])})
	}
}

func TestQ1Labels(t *testing.T) {
	for _, p := range []string{"prepare ", "commit prepared ", "rollback prepared "} {
		for _, name := range []string{"a", "z9", "a_", "abcdefghijklmnop", "from", "prepare"} {
			wantSame(t, p+"'"+name+"'")
		}
		for _, label := range []string{"a", "''", "'A'", "'1'", "'_a'", "' a'", "'a '", "'a b'", "'abcdefghijklmnopq'", "'a''b'", "''''", "'a'''", "'a\\00'", "'a-'", "'é'", "'a", "'", "'''", "5", "-", "(", "\"a\"", "'a\x00'"} {
			wantStuck(t, stuck{p + label, len(p)}, stuck{p + "  " + label + " x", len(p) + 2})
		}
	}
}

func TestQ1Kinds(t *testing.T) {
	for _, p := range []string{"create table t (a ", "create table t (a int key, b ", "alter table t add c "} {
		for _, kind := range []string{"real", "ints", "integer", "Int", "INT", "null", "key", "5", "'int'", "(", ")", ",", "not", "tex", "boolean", "'", "\xff", "abcdefghijklmnopq"} {
			wantStuck(t, stuck{p + kind, len(p)}, stuck{p + kind + " key)", len(p)})
		}
	}
}

func TestQ1Columns(t *testing.T) {
	for _, kind := range []string{"int", "text", "bool"} {
		wantSame(t, "create table t (a "+kind+" key)", "create table t (a int key, b "+kind+")", "create table t (b "+kind+" not null, a int key)", "alter table t add c "+kind)
	}
	wantSame(t, "create table t (a int, a int, a int key)", "create table t (key int key, not text not null)", "create table t (int int key, null bool)")
	wantStuckAt(t,
		"create table t (^)", "create table t (^, a int key)", "create table t (a int key, ^)", "create table t (a int key,^, b int)", "create table t (a int key ^b int)", "create table t (a ^)", "create table t (a int ^null)", "create table t (a int not ^)", "create table t (a int not ^key)", "create table t (a int not ^nul)", "create table t (a int not null ^not null)",
		"create table t (a int^)", "create table t (a int, b int not null^)", "create table t (a int^) x", // none has `key`
		"create table t (a int key, b int ^key)", "create table t (a int key ^key)", "create table t (a int key, b int, c int ^key, d int key)", // two have it
		"create table t (a int key ^not null)", "create table t (a int not null ^key)", "create table t (a int key, b int not null ^key)", "create table t (a int not null ^key not null)",
	)
}

// TestQ1Many: as many as there may be, and one more.
func TestQ1Many(t *testing.T) {
	seven := many(7, "a int")
	wantSame(t, "create table t ("+seven+", a int key)", "create table t (a int key, "+seven+")", "create table t (b text not null, "+many(6, "a int")+", a int key)")
	wantStuckAt(t,
		"create table t (a int key, "+seven+", ^b int)", "create table t (a int key, "+seven+", ^b)", "create table t (a int key, "+seven+", ^)", "create table t (a int key, "+seven+", ^", "create table t (a int key, "+seven+", ^'", "create table t (a int key, "+seven+", ^int int key)", "create table t (a int, "+seven+", ^a int key)", "create table t (a int, "+seven+"^)", "create table t (a int key, "+seven+",   ^5",
	)
	wantSame(t, "insert into t values ("+many(8, "1")+")", "insert into t values ("+many(8, "-1")+"), ("+many(8, "'a'")+")")
	wantStuckAt(t,
		"insert into t values ("+many(8, "1")+", ^9)", "insert into t values ("+many(8, "1")+", ^-9)", "insert into t values ("+many(8, "1")+", ^05)", "insert into t values ("+many(8, "1")+", ^- x)", "insert into t values ("+many(8, "1")+", ^)", "insert into t values ("+many(8, "1")+",^", "insert into t values ("+many(8, "1")+",^'", "insert into t values (1), ("+many(8, "1")+", ^'a')",
	)
	wantSame(t, "insert into t values "+many(16, "(1)"), "insert into t values "+many(16, "("+many(8, "1")+")"))
	wantStuckAt(t, "insert into t values "+many(16, "(1)")+", ^(1)", "insert into t values "+many(16, "(1)")+",^", "insert into t values "+many(16, "(1)")+", ^x", "insert into t values "+many(16, "(1)")+", ^('x", "insert into t values "+many(16, "(1)")+", ^(05)", "insert into t values "+many(16, "(1)")+", ^(), (1)")
	wantSame(t, "select "+many(8, "a + 1")+" from t")
	wantStuckAt(t, "select "+many(8, "a")+", ^b from t", "select "+many(8, "a")+", ^b + 'x", "select "+many(8, "a")+", ^'x", "select "+many(8, "a")+", ^from t", "select "+many(8, "a")+", ^)", "select "+many(8, "a")+",^", "select "+many(8, "a")+", ^* from t", "select "+many(8, "a")+", ^(1 +) from t", "select "+many(8, "length(a)")+", ^, b from t")
	wantSame(t, "update t set "+many(8, "a = 1"), "update t set "+many(8, "a = 1")+" where b")
	wantStuckAt(t, "update t set "+many(8, "a = 1")+", ^b = 1", "update t set "+many(8, "a = 1")+", ^b", "update t set "+many(8, "a = 1")+",^", "update t set "+many(8, "a = 1")+", ^where b", "update t set "+many(8, "a = 1")+", ^5", "update t set "+many(8, "a = 1")+", ^b = 1 +")
}

func TestQ1Values(t *testing.T) {
	wantPrint(t,
		"insert into t values (0, 1, -1, 9223372036854775807, -9223372036854775808)", "insert into t values (0, 1, -1, 9223372036854775807, -9223372036854775808)",
		"insert into t values (- 5, -   6, -7)", "insert into t values (-5, -6, -7)", "insert into t values(null,true,false)", "insert into t values (null, true, false)",
		"insert into t values ('', ' ', 'a  b', '''', 'it''s', '\\00\\ff\\5c', ')', ',')", "insert into t values ('', ' ', 'a  b', '''', 'it''s', '\\00\\ff\\5c', ')', ',')",
		"insert into t values ('"+strings.Repeat("x", 200)+"')", "insert into t values ('"+strings.Repeat("x", 200)+"')", "insert into t values ('a'),(1)  ,  (  2  )", "insert into t values ('a'), (1), (2)",
	)
	wantStuckAt(t,
		"insert into t values (^)", "insert into t values (1,^)", "insert into t values (^, 1)", "insert into t values (1 ^2)", "insert into t values (^x)", "insert into t values (^nul)", "insert into t values (^NULL)", "insert into t values (^nulls)", "insert into t values (^+1)", "insert into t values (^*)", "insert into t values (^(1))", "insert into t values (^\"a\")", "insert into t values (^\xff)", "insert into t values (1 ^+ 1)", "insert into t values (1^.5)", "insert into t values (1^a)", "insert into t values (0^x1)", "insert into t values ('a' ^'b')", "insert into t values (^length(1))", "insert into t values (5^-1)",
		"insert into t values (-^)", "insert into t values (- ^x)", "insert into t values (- ^-5)", "insert into t values (- ^'a')", "insert into t values (- ^null)", "insert into t values (- ^true)", "insert into t values (- ^'a)", "insert into t values (-^, 1)", "insert into t values (-^(5))",
		"insert into t values (1), ^", "insert into t values (1), ^2", "insert into t values (1),^,(2)", "insert into t values (1), (^)", "insert into t values (1), (2^",
		"insert into t values (^'open", "insert into t values (^'open)", "insert into t values (1, ^'it''s)", "insert into t values (^''')", "insert into t values (^'a'')", "insert into t values ^'a", "insert into t values (^'a''", "insert into t values ('a')^'",
	)
}

// TestQ1ValuesThatAreRefused: the error of layer 4, and the place of the first token.
func TestQ1ValuesThatAreRefused(t *testing.T) {
	for s, e := range map[string]api.Errno{
		"05": api.ErrValueForm, "00": api.ErrValueForm, "-0": api.ErrValueForm, "- 0": api.ErrValueForm, "-05": api.ErrValueForm, "-   05": api.ErrValueForm,
		"9223372036854775808": api.ErrValueForm, "-9223372036854775809": api.ErrValueForm, "- 9223372036854775809": api.ErrValueForm, strings.Repeat("9", 300): api.ErrValueForm,
		"'\\41'": api.ErrValueForm, "'\\'": api.ErrValueForm, "'\\\\'": api.ErrValueForm, "'\\5C'": api.ErrValueForm, "'é'": api.ErrValueForm, "'\x00'": api.ErrValueForm, "'\n'": api.ErrValueForm, "'\xff'": api.ErrValueForm, "'\\27'": api.ErrValueForm,
		"'" + strings.Repeat("x", 201) + "'": api.ErrValueLong, "'" + strings.Repeat("''", 201) + "'": api.ErrValueLong, "'" + strings.Repeat("\\00", 201) + "'": api.ErrValueLong, "'" + strings.Repeat("x", 201) + "\\41'": api.ErrValueForm,
	} {
		wantRefused(t, "insert into t values ("+s+")", e, 22)
		wantRefused(t, "insert into t values (1,  "+s+", x", e, 26) // what is wrong behind it does not count
		wantRefused(t, "insert into t values (1), (2, "+s, e, 30)
		wantRefused(t, "insert into t values ("+s+"), ('open", e, 22)
	}
	wantRefused(t, "insert into t values (05, -0)", api.ErrValueForm, 22)
	wantStuck(t, stuck{"insert into t values (x, 05)", 22}, stuck{"insert into T values (05)", 12})
}

func TestQ1Counts(t *testing.T) {
	wantPrint(t, "select a from t limit 0", "select a from t limit 0", "select a from t limit 000", "select a from t limit 0", "select a from t limit 03", "select a from t limit 3", "select a from t limit 000000000", "select a from t limit 0", "select a from t limit 000000001", "select a from t limit 1", "select a from t limit 999999999", "select a from t limit 999999999", "select a from t limit 10", "select a from t limit 10")
	for _, count := range []string{"1000000000", "0000000000", "0000000001", strings.Repeat("9", 900), "-1", "- 1", "x", "'1'", "(1)", "null", "+1", ",", "'", "all", "*", "\xff"} {
		wantStuck(t, stuck{"select a from t limit " + count, 22}, stuck{"select a from t limit  " + count + " x", 23})
	}
	wantStuckAt(t, "select a from t limit 1^.5", "select a from t limit 1 ^+ 1", "select a from t limit 1^x", "select a from t limit 5 ^5", "select a from t limit 5^'")
}

// exprPlaces are all places of forms where an EXPR stands: what stands ahead of it, and behind.
var exprPlaces = [][2]string{
	{"update t set a = ", ""}, {"update t set a = ", " where b"}, {"update t set a = ", ", b = 1"}, {"update t set a = 1, b = ", ""}, {"update t set a = 1 where ", ""}, {"delete from t where ", ""},
	{"select ", " from t"}, {"select ", ", b from t"}, {"select b, ", " from t"}, {"select b, ", ", c from t"}, {"select * from t where ", ""}, {"select * from t where ", " order by a"}, {"select * from t where ", " limit 1"}, {"select * from t order by ", ""}, {"select * from t order by ", " desc"}, {"select * from t where a order by ", " limit 1"}, {"select * from t where a order by ", " desc limit 1"},
}

func TestQ1Exprs(t *testing.T) {
	for _, p := range exprPlaces {
		for _, s := range []string{"a", "a + 1", "'from'", "', '", "')'", "'it''s'", "length(a)", "substr(a, 1, 2)", "a in (1, 2)", "a not between 1 and 2", "case when a then b else c end", "-(a)", "-5", "null", "(a + 1) * 2", "abs(-(a))", "a || 'desc limit 5'", "froms", "fro", "order_by"} {
			wantSame(t, p[0]+s+p[1])
		}
		// without tokens
		wantStuck(t, stuck{p[0] + p[1], len(p[0]) + len(p[1]) - len(strings.TrimLeft(p[1], " "))}, stuck{p[0] + " )", len(p[0]) + 1}, stuck{p[0] + ", a", len(p[0])})
		// refused by layer 11
		for _, c := range []stuck{{"1 +", 3}, {"1 2", 2}, {"foo(1)", 0}, {"length(1, 2)", 0}, {"01", 1}, {"length()", 7}, {"a = = b", 4}, {"a b", 2}, {"abcdefghijklmnopq", 0}, {"a + '\\41'", 4}, {"\xff", 0}, {"a ; b", 2}, {"and", 0}, {"a and", 5}, {"= 1", 0}, {"A", 0}, {"()", 1}, {"a in ()", 6}} {
			wantRefused(t, p[0]+c.text+p[1], api.ErrExprForm, len(p[0])+c.place)
			wantRefused(t, p[0]+"   "+c.text+"  "+p[1], api.ErrExprForm, len(p[0])+3+c.place)
		}
		wantRefused(t, p[0]+"1 + 9223372036854775808"+p[1], api.ErrExprRange, len(p[0])+4)
		wantRefused(t, p[0]+strings.Repeat("-", 20)+"a"+p[1], api.ErrExprDeep, len(p[0]))
		wantPrint(t, p[0]+strings.Repeat("-", 19)+"a"+p[1], p[0]+strings.Repeat("-(", 19)+"a"+strings.Repeat(")", 19)+p[1])
		// its text is what counts, without the blanks around it
		wantPrint(t, p[0]+strings.Repeat(" ", 450)+"a"+strings.Repeat(" ", 450)+p[1], p[0]+"a"+p[1])
		wantPrint(t, p[0]+"1"+strings.Repeat(" ", 397)+"+1"+p[1], p[0]+"1 + 1"+p[1])
		wantRefused(t, p[0]+"1"+strings.Repeat(" ", 398)+"+1"+p[1], api.ErrExprForm, len(p[0])+400)
	}
}

// TestQ1ExprsWithoutEnd: a quote without an end is told, whatever else layer 11 would refuse of that EXPR, but nothing ahead of it.
func TestQ1ExprsWithoutEnd(t *testing.T) {
	for _, p := range exprPlaces {
		for _, s := range []string{"^'", "^'open", "a = ^'open", "a b ^'open", "1 + + ^'", "foo(^'x", "(((^'x", "^'''", "'a' = ^'b''", "abcdefghijklmnopq ^'", "9223372036854775808 ^'x", "a in (1, ^'x)", "^'a''", "\xff ^'"} {
			wantStuckAt(t, p[0]+s, p[0]+"  "+s+p[1])
		}
	}
	wantRefused(t, "select a b, 'open", api.ErrExprForm, 9)
	wantRefused(t, "update t set a = 1 +, b = 'open", api.ErrExprForm, 20)
	wantRefused(t, "select a from t where b c order by 'open", api.ErrExprForm, 24)
	wantStuckAt(t, "select a ^) 'open", "select a, ^, 'open", "select a from t where b limit ^'open", "select a from t where b order ^'open", "select ^'from t", "select a from ^'t", "delete from t where a ^desc 'open", "update t set a ^'open", "update t set ^'open", "select * ^'from t", "select a ^'from t")
}

// TestQ1WordsThatEndAnExpr: within brackets they are names, outside they end it.
func TestQ1WordsThatEndAnExpr(t *testing.T) {
	for _, w := range []string{"from", "where", "order", "limit", "desc"} {
		wantPrint(t, "select ("+w+") from t", "select "+w+" from t", "select a, abs("+w+" + 1) from t", "select a, abs("+w+" + 1) from t", "delete from t where a in ("+w+", 1)", "delete from t where a in ("+w+", 1)", "update t set a = (("+w+")) where b", "update t set a = "+w+" where b", "select a from t order by -("+w+")", "select a from t order by -("+w+")")
		wantRefused(t, "select a + "+w+" from t", api.ErrExprForm, 10)
		wantRefused(t, "delete from t where a = "+w, api.ErrExprForm, 23)
		wantStuckAt(t, "select ^"+w+" from t", "delete from t where ^"+w, "update t set a = ^"+w, "select a from t order by ^"+w, "update t set a = 1, b = ^"+w+" where a")
		if w != "where" {
			wantStuckAt(t, "delete from t where a ^"+w+" b", "update t set a = 1 ^"+w+" b")
		}
		if w != "from" {
			wantStuckAt(t, "select a ^"+w+" b", "select (a) ^"+w+" b")
		}
	}
	wantStuckAt(t, "select a^) from t", "select (a)^) from t", "select ^) from t", "select (a), b^) from t", "delete from t where length(a)^)", "update t set a = (1)^)", "select a from t order by (a)^), b")
	wantRefused(t, "select (a from t", api.ErrExprForm, 10)
	wantRefused(t, "select (a, b from t", api.ErrExprForm, 9)
	wantRefused(t, "select ((a) from t", api.ErrExprForm, 12)
	wantRefused(t, "select length(a, b) from t", api.ErrExprForm, 7)
	wantRefused(t, "select (a", api.ErrExprForm, 9)
	wantRefused(t, "select (a  ", api.ErrExprForm, 9)
	wantRefused(t, "select (from t", api.ErrExprForm, 13)
}

func TestQ1Star(t *testing.T) {
	wantSame(t, "select * from t", "select * from from", "select a * b from t", "select a from t where a * b = 1", "select a * b * c from t")
	wantPrint(t, "select*from t", "select * from t", "select   *   from   t", "select * from t", "select (from)*a from t", "select from * a from t")
	for s, place := range map[string]int{
		"select *": 7, "select * ": 7, "select *, a from t": 7, "select * , * from t": 7, "select a, * from t": 10, "select ** from t": 7, "select * a from t": 7, "select * where a": 7, "select (*) from t": 8, "select t.* from t": 8, "select * )": 7, "select * 'from' from t": 7, "select *\n from t": 7,
		"select a from t where * from t": 22, "select a from t order by *": 25, "select a * from t": 10, "select * order by a": 7, "select *,": 7, "select * fro t": 7, "select * fromt": 7,
	} {
		wantRefused(t, s, api.ErrExprForm, place)
	}
	wantStuck(t, stuck{"select * from", 13}, stuck{"select * from *", 14}, stuck{"select * from from from", 19}, stuck{"select * 'x", 9})
}

// TestQ1FirstOfSeveral: of all that is wrong what stands first is told.
func TestQ1FirstOfSeveral(t *testing.T) {
	wantStuckAt(t, "create table ^T (a real)", "create table t (a ^real, b", "create table t (^A int, a int key, b int key)", "create table t (a int key, b int ^key, c real)", "insert ^in T values (05)", "select a ^where b c 'open", "update ^T set a = 1 +", "delete from ^5 where 1 +", "^Select 'open", "prepare ^'A' 'open", "commit ^prepare 'open", "rollback to ^'open")
	wantRefused(t, "select 1 + from T limit x", api.ErrExprForm, 10)
	wantRefused(t, "select 1, 2 +, 3 3 from t", api.ErrExprForm, 13)
	wantRefused(t, "update t set a = 1 +, b = 9223372036854775808", api.ErrExprForm, 20)
	wantRefused(t, "update t set a = 9223372036854775808, b = 1 +", api.ErrExprRange, 17)
	wantRefused(t, "insert into t values (05, x, 'open", api.ErrValueForm, 22)
	wantRefused(t, "select a from t where b + order 5", api.ErrExprForm, 25)
}
