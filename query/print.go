package query

import (
	"strconv"
	"strings"

	"confluence/api"
	"confluence/expr"
	"confluence/value"
)

// kindWords are the words of the kinds of columns.
var kindWords = [...]string{api.Int: "int", api.Text: "text", api.Bool: "bool"}

// heads are the words with which a statement of each kind begins.
var heads = [...]string{
	Create:           "create table ",
	Drop:             "drop table ",
	Widen:            "alter table ",
	Empty:            "truncate ",
	Insert:           "insert into ",
	Update:           "update ",
	Delete:           "delete from ",
	Select:           "select ",
	Begin:            "begin",
	Commit:           "commit",
	Rollback:         "rollback",
	Savepoint:        "savepoint ",
	RollbackTo:       "rollback to ",
	Release:          "release ",
	Prepare:          "prepare ",
	CommitPrepared:   "commit prepared ",
	RollbackPrepared: "rollback prepared ",
}

// Print tells it.
func (q *Stmt) Print() string { return heads[q.kind] + q.tail() }

// tail is what stands behind the head.
func (q *Stmt) tail() string {
	switch q.kind {
	case Create:
		return q.table + " (" + commas(len(q.columns), q.printColumn) + ")"
	case Drop, Empty:
		return q.table
	case Widen:
		return q.table + " add " + printKind(q.columns[0])
	case Insert:
		return q.table + " values " + commas(len(q.rows), q.printRow)
	case Update:
		return q.table + " set " + commas(len(q.settings), q.printSetting) + behind(" where ", q.where)
	case Delete:
		return q.table + behind(" where ", q.where)
	case Select:
		return q.printSelect()
	case Savepoint, RollbackTo, Release:
		return q.name
	case Prepare, CommitPrepared, RollbackPrepared:
		return "'" + q.name + "'"
	}
	return ""
}

func (q *Stmt) printColumn(i int) string {
	switch c := q.columns[i]; {
	case i == q.key:
		return printKind(c) + " key"
	case !c.Null:
		return printKind(c) + " not null"
	default:
		return printKind(c)
	}
}

func printKind(c api.Column) string { return c.Name + " " + kindWords[c.Kind] }

func (q *Stmt) printRow(i int) string {
	r := q.rows[i]
	return "(" + commas(len(r), func(k int) string { return value.Print(r[k]) }) + ")"
}

func (q *Stmt) printSetting(i int) string {
	return q.settings[i].column + " = " + q.settings[i].to.Print()
}

func (q *Stmt) printSelect() string {
	out := "*"
	if len(q.list) > 0 {
		out = commas(len(q.list), func(i int) string { return q.list[i].Print() })
	}
	out += " from " + q.table + behind(" where ", q.where) + behind(" order by ", q.order)
	if q.falling {
		out += " desc"
	}
	if q.limit != noLimit {
		out += " limit " + strconv.Itoa(q.limit)
	}
	return out
}

// behind is an expression behind its words; nothing, if there is none.
func behind(words string, e *expr.Expr) string {
	if e == nil {
		return ""
	}
	return words + e.Print()
}

// commas are n things with commas between.
func commas(n int, thing func(int) string) string {
	l := make([]string, n)
	for i := range l {
		l[i] = thing(i)
	}
	return strings.Join(l, ", ")
}
