package publish

import (
	"confluence/api"
	"confluence/catalog"
)

// Publisher tells transactions.
type Publisher struct {
	tables []wanted
	open   *transaction // nil: it is outside of any
}

// transaction is one that is told: what began it, and which message told each table last, by the table's number.
type transaction struct {
	begin
	told map[int]message
}

// New makes one.
func New(p api.Publication) (*Publisher, api.Errno) {
	l, e := read(p)
	if e != api.OK {
		return nil, e
	}
	return &Publisher{tables: l}, api.OK
}

// Begin begins a transaction, whose commit stands at a position.
func (p *Publisher) Begin(xid, lsn int) api.Errno {
	first := begin{xid, lsn}
	switch {
	case !first.isRight():
		return api.ErrArg
	case p.open != nil:
		return api.ErrPublishOrder
	}
	p.open = &transaction{first, map[int]message{}}
	return api.OK
}

// Change tells a change of a table; the messages.
func (p *Publisher) Change(t api.Table, c api.Change) ([]string, api.Errno) {
	switch {
	case !isChange(t, c):
		return nil, api.ErrArg
	case p.open == nil:
		return nil, api.ErrPublishOrder
	}
	v, is := viewOf(p.tables, t)
	if !is {
		return nil, api.OK
	}
	m := v.change(c)
	if m == nil {
		return nil, api.OK
	}
	return p.open.tell(v, m), api.OK
}

// Commit ends it; the messages.
func (p *Publisher) Commit(end int) ([]string, api.Errno) {
	if p.open == nil {
		return nil, api.ErrPublishOrder
	}
	last := commit{p.open.xid, p.open.lsn, end}
	if !last.isRight() {
		return nil, api.ErrArg
	}
	told := p.open.isTold()
	p.open = nil
	if !told {
		return nil, api.OK
	}
	return []string{laid(last)}, api.OK
}

// isTold tells whether something was told of it: nothing is, ahead of its table.
func (x *transaction) isTold() bool { return len(x.told) > 0 }

// tell is a message of a view's table, and ahead of it what must be known for that.
func (x *transaction) tell(v view, m message) []string {
	var l []string
	if !x.isTold() {
		l = append(l, laid(x.begin))
	}
	if id := v.shown.ID; !v.isToldBy(x.told[id]) {
		x.told[id] = v.table()
		l = append(l, laid(x.told[id]))
	}
	return append(l, laid(m))
}

// isChange tells whether a change may be one of a table.
func isChange(t api.Table, c api.Change) bool {
	if catalog.Right(t) != api.OK || c.Table != t.ID {
		return false
	}
	switch c.Kind {
	case api.RecInsert:
		return isWhole(t, c.New)
	case api.RecUpdate:
		return isWhole(t, c.Old) && isWhole(t, c.New) && c.Old[t.Key] == c.New[t.Key]
	case api.RecDelete:
		return isWhole(t, c.Old)
	}
	return c.Kind == api.RecEmpty
}

// isWhole tells whether a row fits a table as it is, with nothing to be filled up.
func isWhole(t api.Table, r api.Row) bool {
	_, e := catalog.Fit(t, r)
	return e == api.OK && len(r) == len(t.Columns)
}
