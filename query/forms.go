package query

import (
	"confluence/api"
	"confluence/expr"
)

// statement takes a statement, by the form that its first word begins.
func (p *parser) statement() *Stmt {
	first := p.take()
	switch first.bytes {
	case "create":
		return p.create()
	case "drop":
		p.want("table")
		return &Stmt{kind: Drop, table: p.name()}
	case "alter":
		return p.widen()
	case "truncate":
		return &Stmt{kind: Empty, table: p.name()}
	case "insert":
		return p.insert()
	case "update":
		return p.update()
	case "delete":
		return p.delete()
	case "select":
		return p.choose()
	}
	return p.ofTransaction(first)
}

// ofTransaction takes a statement that is the session's, whose first word was taken.
func (p *parser) ofTransaction(first token) *Stmt {
	switch first.bytes {
	case "begin":
		return &Stmt{kind: Begin}
	case "commit":
		if p.takes("prepared") {
			return &Stmt{kind: CommitPrepared, name: p.label()}
		}
		return &Stmt{kind: Commit}
	case "rollback":
		return p.rollback()
	case "savepoint":
		return &Stmt{kind: Savepoint, name: p.name()}
	case "release":
		return &Stmt{kind: Release, name: p.name()}
	case "prepare":
		return &Stmt{kind: Prepare, name: p.label()}
	}
	p.refuse(first)
	return nil
}

func (p *parser) rollback() *Stmt {
	switch {
	case p.takes("to"):
		return &Stmt{kind: RollbackTo, name: p.name()}
	case p.takes("prepared"):
		return &Stmt{kind: RollbackPrepared, name: p.label()}
	}
	return &Stmt{kind: Rollback}
}

func (p *parser) create() *Stmt {
	p.want("table")
	q := &Stmt{kind: Create, table: p.name(), key: -1}
	p.want("(")
	p.row(api.MaxColumns, func() { p.column(q) })
	if q.key < 0 {
		p.refuse(p.next())
	}
	p.want(")")
	return q
}

// column takes a COLUMN. A second `key` is left: it is none of the tokens that may stand behind a column.
func (p *parser) column(q *Stmt) {
	c := api.Column{Name: p.name()}
	c.Kind = p.kind()
	switch {
	case q.key < 0 && p.takes("key"):
		q.key = len(q.columns)
	case p.takes("not"):
		p.want("null")
	default:
		c.Null = true
	}
	q.columns = append(q.columns, c)
}

func (p *parser) widen() *Stmt {
	p.want("table")
	q := &Stmt{kind: Widen, table: p.name()}
	p.want("add")
	c := api.Column{Name: p.name(), Null: true}
	c.Kind = p.kind()
	q.columns = []api.Column{c}
	return q
}

func (p *parser) insert() *Stmt {
	p.want("into")
	q := &Stmt{kind: Insert, table: p.name()}
	p.want("values")
	p.row(api.MaxRows, func() { q.rows = append(q.rows, p.values()) })
	return q
}

// values takes a ROW.
func (p *parser) values() api.Row {
	var r api.Row
	p.want("(")
	p.row(api.MaxColumns, func() { r = append(r, p.value()) })
	p.want(")")
	return r
}

func (p *parser) update() *Stmt {
	q := &Stmt{kind: Update, table: p.name()}
	p.want("set")
	p.row(api.MaxColumns, func() {
		x := setting{column: p.name()}
		p.want("=")
		x.to = p.expression()
		q.settings = append(q.settings, x)
	})
	q.where = p.condition()
	return q
}

func (p *parser) delete() *Stmt {
	p.want("from")
	q := &Stmt{kind: Delete, table: p.name()}
	q.where = p.condition()
	return q
}

func (p *parser) choose() *Stmt {
	q := &Stmt{kind: Select, list: p.list(), limit: noLimit}
	p.want("from")
	q.table = p.name()
	q.where = p.condition()
	if p.takes("order") {
		p.want("by")
		q.order = p.expression()
		q.falling = p.takes("desc")
	}
	if p.takes("limit") {
		q.limit = p.count()
	}
	return q
}

// condition takes a `where`, if there is one.
func (p *parser) condition() *expr.Expr {
	if !p.takes("where") {
		return nil
	}
	return p.expression()
}

// list takes a LIST: none, if that is `*`.
func (p *parser) list() []*expr.Expr {
	if p.next().bytes == "*" && p.tokens[1].bytes == "from" {
		p.take()
		return nil
	}
	var l []*expr.Expr
	p.row(api.MaxColumns, func() { l = append(l, p.expression()) })
	return l
}
