package query_test

import (
	"fmt"
	"math/rand"
	"strings"

	"confluence/api"
	"confluence/expr"
	"confluence/query"
	"confluence/value"
)

// assignment is a column that an Update sets, and the text of what it is to be.
type assignment struct{ column, to string }

// said is a statement as whoever made it knows it. Texts of expressions are as they were written.
type said struct {
	kind         int
	table, name  string
	columns      []api.Column
	key          int
	rows         []api.Row
	settings     []assignment
	list         []string // none: all columns
	where, order string   // empty: there is none
	falling      bool
	limit        string // empty: there is none
}

var kindNames = map[int]string{api.Int: "int", api.Text: "text", api.Bool: "bool"}

// pieces are its tokens in the order of its form, each EXPR and each VALUE as one.
func (x said) pieces() []string {
	words := map[int]string{
		query.Create: "create table", query.Drop: "drop table", query.Widen: "alter table", query.Empty: "truncate", query.Insert: "insert into", query.Update: "update", query.Delete: "delete from", query.Select: "select",
		query.Begin: "begin", query.Commit: "commit", query.Rollback: "rollback", query.Savepoint: "savepoint", query.RollbackTo: "rollback to", query.Release: "release", query.Prepare: "prepare", query.CommitPrepared: "commit prepared", query.RollbackPrepared: "rollback prepared",
	}
	l := strings.Fields(words[x.kind])
	switch x.kind {
	case query.Select:
		l = append(l, x.listed()...)
		l = append(l, "from", x.table)
	case query.Savepoint, query.RollbackTo, query.Release:
		l = append(l, x.name)
	case query.Prepare, query.CommitPrepared, query.RollbackPrepared:
		l = append(l, "'"+x.name+"'")
	case query.Begin, query.Commit, query.Rollback:
	default:
		l = append(l, x.table)
		l = append(l, x.body()...)
	}
	if x.where != "" {
		l = append(l, "where", x.where)
	}
	if x.order != "" {
		l = append(l, "order", "by", x.order)
	}
	if x.falling {
		l = append(l, "desc")
	}
	if x.limit != "" {
		l = append(l, "limit", x.limit)
	}
	return l
}

func (x said) listed() []string {
	if len(x.list) == 0 {
		return []string{"*"}
	}
	var l []string
	for _, e := range x.list {
		l = append(l, e, ",")
	}
	return l[:len(l)-1]
}

// body is what stands behind the table's name.
func (x said) body() []string {
	var l []string
	switch x.kind {
	case query.Create:
		l = append(l, "(")
		for i, c := range x.columns {
			l = append(l, c.Name, kindNames[c.Kind])
			if i == x.key {
				l = append(l, "key")
			} else if !c.Null {
				l = append(l, "not", "null")
			}
			l = append(l, ",")
		}
		l[len(l)-1] = ")"
	case query.Widen:
		l = append(l, "add", x.columns[0].Name, kindNames[x.columns[0].Kind])
	case query.Insert:
		l = append(l, "values")
		for _, r := range x.rows {
			l = append(l, "(")
			for _, v := range r {
				l = append(l, value.Print(v), ",")
			}
			l[len(l)-1] = ")"
			l = append(l, ",")
		}
		l = l[:len(l)-1]
	case query.Update:
		l = append(l, "set")
		for _, y := range x.settings {
			l = append(l, y.column, "=", y.to, ",")
		}
		l = l[:len(l)-1]
	}
	return l
}

// printed is it as Q2 says: its tokens with the blanks that are told there.
func (x said) printed() string {
	y := x
	y.list, y.settings = nil, nil
	for _, e := range x.list {
		y.list = append(y.list, printedExpr(e))
	}
	for _, z := range x.settings {
		y.settings = append(y.settings, assignment{z.column, printedExpr(z.to)})
	}
	y.where, y.order = printedExpr(x.where), printedExpr(x.order)
	if y.limit = strings.TrimLeft(x.limit, "0"); y.limit == "" && x.limit != "" {
		y.limit = "0"
	}
	out, l := "", y.pieces()
	for i, p := range l {
		if i > 0 && l[i-1] != "(" && p != ")" && p != "," {
			out += " "
		}
		out += p
	}
	return out
}

func printedExpr(s string) string {
	if s == "" {
		return ""
	}
	e, why, _ := expr.Parse(s)
	if why != api.OK {
		panic("no expression: " + s)
	}
	return e.Print()
}

// garden grows random statements, over a table with these columns.
type garden struct {
	*rand.Rand
	columns []api.Column
}

// seeded is one that grows the same each time.
func seeded(n int64) garden {
	return garden{rand.New(rand.NewSource(n)), []api.Column{{Name: "id", Kind: api.Int}, {Name: "s", Kind: api.Text, Null: true}, {Name: "n", Kind: api.Int, Null: true}, {Name: "b", Kind: api.Bool, Null: true}}}
}

// over is one that grows the same, over a table with other columns.
func (g garden) over(l []api.Column) garden { return garden{g.Rand, l} }

func pick[T any](g garden, l ...T) T { return l[g.Intn(len(l))] }

// once tells whether something happens that does so once in n times.
func (g garden) once(n int) bool { return g.Intn(n) == 0 }

// exprForms are expressions by their kinds; the signs I, T, B stand for parts of those kinds, @ for a column of its kind.
var exprForms = map[byte][]string{
	'I': {"@", "@", "@", "@", "0", "1", "2", "5", "-3", "9223372036854775807", "null", "I+I", "I - I", "I *I", "I/ I", "10 / (I)", "I % I", "-I", "length(T)", "abs( I )", "coalesce(I,I)", "case when B then I else I end", "greatest(I, I)", "nullif(I , I)"},
	'T': {"@", "@", "@", "'a'", "'b'", "''", "'it''s'", "', from (where)'", "null", "T||T", "upper(T)", "substr(T, 1, 2)", "substr(T, I, 1)", "case when B then T end", "least(T,T)"},
	'B': {"@", "@", "true", "false", "null", "I>I", "I = I", "I<>I", "T = T", "T >= T", "T like 'a%'", "I is null", "T is not null", "not B", "B and B", "B or B", "I in (I, I)", "I not in(I,null)", "I between I and I", "I <= I", "10 % I < 3"},
}

// column is one of that kind; if there is none, a literal.
func (g garden) column(kind byte) string {
	var l []string
	for _, c := range g.columns {
		if c.Kind == kindOf(kind) {
			l = append(l, c.Name)
		}
	}
	if len(l) == 0 {
		return map[byte]string{'I': "7", 'T': "'x'", 'B': "true"}[kind]
	}
	return pick(g, l...)
}

// expr is the text of an expression of that kind, mostly: sometimes of another, or with a column that there is not.
func (g garden) expr(kind byte, depth int) string {
	if g.once(60) {
		kind = pick[byte](g, 'I', 'T', 'B')
	}
	if g.once(120) {
		return "(" + pick(g, "q", "from", "limit", "desc", "order", "where") + ")"
	}
	form := pick(g, exprForms[kind]...)
	out := ""
	for i := range len(form) {
		switch c := form[i]; {
		case c == '@':
			out += g.column(kind)
		case c != 'I' && c != 'T' && c != 'B':
			out += string(c)
		case depth <= 0:
			out += " " + g.column(c) + " "
		default:
			out += " (" + g.expr(c, depth-1) + ") "
		}
	}
	return strings.TrimSpace(out)
}

// short is an expression that is short enough, however it is told.
func (g garden) short(kind byte) string {
	for {
		if s := g.expr(kind, g.Intn(3)); len(s) < 100 {
			return s
		}
	}
}

// columnKinds are those of the columns that tables here may have; each name has one, mostly.
var columnKinds = map[string]byte{"id": 'I', "n": 'I', "m": 'I', "s": 'T', "u": 'T', "b": 'B', "p": 'B'}

var columnNames = []string{"id", "n", "m", "s", "u", "b", "p"}

func kindOf(letter byte) int { return map[byte]int{'I': api.Int, 'T': api.Text, 'B': api.Bool}[letter] }

// newColumns are some, of which one is a key that may be, mostly.
func (g garden) newColumns() ([]api.Column, int) {
	l := []api.Column{{Name: "id", Kind: pick(g, api.Int, api.Int, api.Int, api.Text)}}
	for _, i := range g.Perm(len(columnNames) - 1)[:g.Intn(6)] {
		name := columnNames[1+i]
		l = append(l, api.Column{Name: name, Kind: kindOf(columnKinds[name]), Null: !g.once(4)})
	}
	key := 0
	if g.once(15) {
		key = g.Intn(len(l))
	}
	if g.once(15) {
		l = append(l, l[g.Intn(len(l))])
	}
	g.Shuffle(len(l), func(i, j int) {
		l[i], l[j] = l[j], l[i]
		if key == i {
			key = j
		} else if key == j {
			key = i
		}
	})
	l[key].Null = false
	return l, key
}

// value is one of a kind, or null, or one of another kind.
func (g garden) value(kind int) api.Value {
	if g.once(25) {
		kind = g.Intn(4)
	}
	if g.once(7) {
		return api.Value{}
	}
	switch kind {
	case api.Int:
		return v(pick(g, 0, 1, 2, 3, 4, 5, 6, 7, 8, -1, -2, 1<<62))
	case api.Text:
		return v(pick(g, "", "a", "b", "c", "ab", "it's", "\x00", "x"))
	case api.Bool:
		return v(g.once(2))
	}
	return api.Value{}
}

// row fits the columns, mostly.
func (g garden) row() api.Row {
	l := g.columns
	n := len(l)
	if g.once(6) {
		n = 1 + g.Intn(8)
	}
	r := make(api.Row, n)
	for i := range r {
		kind := g.Intn(4)
		if i < len(l) {
			kind = l[i].Kind
		}
		if r[i] = g.value(kind); i < len(l) && !l[i].Null && r[i].Kind == api.Null && !g.once(10) {
			r[i] = g.value(kind)
		}
	}
	return r
}

// statement is of any kind.
func (g garden) statement() said {
	return g.statementOf(1+g.Intn(query.RollbackPrepared), pick(g, "t", "u", "abcdefghijklmnop", "from"))
}

// statementOf is of that kind, about that table.
func (g garden) statementOf(kind int, table string) said {
	for {
		x := g.anyStatement(kind, table)
		if len(strings.Join(x.pieces(), "   ")) < api.MaxStatement-20 {
			return x
		}
	}
}

func (g garden) anyStatement(kind int, table string) said {
	x := said{kind: kind, table: table, key: -1}
	switch kind {
	case query.Create:
		x.columns, x.key = g.newColumns()
	case query.Widen:
		name := pick(g, columnNames...)
		x.columns = []api.Column{{Name: name, Kind: kindOf(columnKinds[name]), Null: true}}
	case query.Insert:
		for range 1 + g.Intn(3) {
			x.rows = append(x.rows, g.row())
		}
		if g.once(30) {
			x.rows = append(x.rows, make([]api.Row, 16-len(x.rows))...)
			for i := range x.rows {
				x.rows[i] = api.Row{v(100 + i)}
			}
		}
	case query.Update:
		g.settings(&x)
	case query.Select:
		for range g.Intn(4) {
			x.list = append(x.list, g.short(pick[byte](g, 'I', 'T', 'B')))
		}
		if g.once(2) {
			x.order = g.short(pick[byte](g, 'I', 'T', 'B'))
			x.falling = g.once(2)
		}
		if g.once(3) {
			x.limit = strings.Repeat("0", g.Intn(3)) + fmt.Sprint(g.Intn(6))
		}
	}
	if kind >= query.Update && kind <= query.Select && !g.once(3) {
		x.where = g.short('B')
	}
	if kind >= query.Begin {
		x.table = ""
	}
	if kind >= query.Savepoint {
		x.name = pick(g, "a", "b", "name_1", "abcdefghijklmnop", "from")
	}
	return x
}

// settings are of columns that there are and are no key, each once, mostly.
func (g garden) settings(x *said) {
	for i, k := range g.Perm(len(g.columns)) {
		c := g.columns[k]
		if i > 0 && g.once(2) || c.Name == "id" && !g.once(40) {
			continue
		}
		x.settings = append(x.settings, assignment{c.Name, g.short("?ITB"[c.Kind])})
	}
	if len(x.settings) == 0 || g.once(40) {
		x.settings = append(x.settings, assignment{pick(g, append(columnNames, "q")...), g.short(pick[byte](g, 'I', 'T', 'B'))})
	}
}

// spaced is a text of these tokens, with any blanks between: none, where two can't be read as one.
func (g garden) spaced(l []string) string {
	out := strings.Repeat(" ", g.Intn(2))
	for _, p := range l {
		if g.once(3) && strings.HasPrefix(p, "-") {
			p = "-" + strings.Repeat(" ", g.Intn(3)) + p[1:]
		}
		n := g.Intn(3)
		if n == 0 && out != "" && glued(out[len(out)-1], p[0]) {
			n = 1
		}
		out += strings.Repeat(" ", n) + p
	}
	return out + strings.Repeat(" ", g.Intn(2))
}

// glued tells whether two tokens may be read as one, if the one ends and the other begins so.
func glued(a, b byte) bool {
	part := func(c byte) bool { return c >= 'a' && c <= 'z' || c >= '0' && c <= '9' || c == '_' }
	return part(a) && part(b) || a == '\'' && b == '\''
}

// spoilt is a text with some bytes turned, put in or left out.
func (g garden) spoilt(s string) string {
	const often = " ()'-,*=0a1\\_\xff"
	for range 1 + g.Intn(2) {
		i := g.Intn(len(s) + 1)
		b := string([]byte{byte(g.Intn(256))})
		if !g.once(3) {
			k := g.Intn(len(often))
			b = often[k : k+1]
		}
		switch g.Intn(5) {
		case 0:
			s = s[:i] + b + s[i:]
		case 1:
			s = s[:i] + s[min(i+1, len(s)):]
		case 2:
			s = s[:i] + " " + pick(g, someWords...) + " " + s[i:]
		case 3:
			s = s[:i]
		default:
			s = s[:i] + b + s[min(i+1, len(s)):]
		}
	}
	return s
}
