package query

import (
	"slices"

	"confluence/api"
	"confluence/expr"
	"confluence/store"
	"confluence/value"
)

var yes = api.Value{Kind: api.Bool, N: 1}

// look is the statement's table, for which its expressions are right, and the chosen rows.
func (q *Stmt) look(s *store.Store, xid int) (api.Table, []api.Row, api.Errno) {
	l := s.Tables()
	i := slices.IndexFunc(l, func(t api.Table) bool { return t.Name == q.table })
	if i < 0 {
		return api.Table{}, nil, api.ErrTableNone
	}
	if e := q.check(l[i]); e != api.OK {
		return api.Table{}, nil, e
	}
	rows, e := q.chosen(s, xid, l[i])
	return l[i], rows, e
}

// check looks at the expressions in the order in which they stand; each kind of statement has some of them.
func (q *Stmt) check(t api.Table) api.Errno {
	for i := range q.settings {
		if e := q.checkSetting(t, i); e != api.OK {
			return e
		}
	}
	for _, x := range q.list {
		if _, e := x.Check(t); e != api.OK {
			return e
		}
	}
	if e := checkKind(q.where, t, api.Bool, api.ErrQueryKind); e != api.OK || q.order == nil {
		return e
	}
	_, e := q.order.Check(t)
	return e
}

func (q *Stmt) checkSetting(t api.Table, i int) api.Errno {
	x := q.settings[i]
	switch place := placeOf(t, x.column); {
	case place < 0:
		return api.ErrExprName
	case place == t.Key:
		return api.ErrColumnKey
	case slices.ContainsFunc(q.settings[:i], func(y setting) bool { return y.column == x.column }):
		return api.ErrColumnThere
	default:
		return checkKind(x.to, t, t.Columns[place].Kind, api.ErrExprKind)
	}
}

// checkKind tells what is wrong with an expression that must be of a kind, or of any; with one that there is not, nothing is.
func checkKind(x *expr.Expr, t api.Table, want int, otherwise api.Errno) api.Errno {
	if x == nil {
		return api.OK
	}
	kind, e := x.Check(t)
	if e == api.OK && kind != want && kind != api.Null {
		return otherwise
	}
	return e
}

// placeOf is the place of a column; below 0: there is none.
func placeOf(t api.Table, name string) int {
	return slices.IndexFunc(t.Columns, func(c api.Column) bool { return c.Name == name })
}

// chosen are the rows for which the condition is true, by rising keys.
func (q *Stmt) chosen(s *store.Store, xid int, t api.Table) ([]api.Row, api.Errno) {
	var l []api.Row
	for r := range s.Scan(xid, q.table) {
		is, e := q.wants(t, r)
		if e != api.OK {
			return nil, e
		}
		if is {
			l = append(l, r)
		}
	}
	return l, api.OK
}

func (q *Stmt) wants(t api.Table, r api.Row) (bool, api.Errno) {
	if q.where == nil {
		return true, api.OK
	}
	v, e := q.where.Eval(t, r)
	return v == yes, e
}

// renewed is a row as an Update wants it: all is worked out over the old one.
func (q *Stmt) renewed(t api.Table, old api.Row) (api.Row, api.Errno) {
	r := slices.Clone(old)
	for _, x := range q.settings {
		v, e := x.to.Eval(t, old)
		if e != api.OK {
			return nil, e
		}
		r[placeOf(t, x.column)] = v
	}
	return r, api.OK
}

// ranked is a row with the value by which it is ordered.
type ranked struct {
	row  api.Row
	rank api.Value
}

// ordered are rows, which stand by rising keys, in the order that is asked for.
func (q *Stmt) ordered(t api.Table, rows []api.Row) ([]api.Row, api.Errno) {
	if q.order == nil {
		return rows, api.OK
	}
	l, e := each(rows, func(r api.Row) (ranked, api.Errno) {
		v, e := q.order.Eval(t, r)
		return ranked{r, v}, e
	})
	if e != api.OK {
		return nil, e
	}
	slices.SortStableFunc(l, func(a, b ranked) int {
		if q.falling {
			a, b = b, a
		}
		return value.Compare(a.rank, b.rank)
	})
	for i, x := range l {
		rows[i] = x.row
	}
	return rows, api.OK
}

// first are as many rows as are asked for.
func (q *Stmt) first(rows []api.Row) []api.Row {
	if q.limit == noLimit || q.limit > len(rows) {
		return rows
	}
	return rows[:q.limit]
}

// told is what a Select tells of a row.
func (q *Stmt) told(t api.Table, r api.Row) (api.Row, api.Errno) {
	if len(q.list) == 0 {
		return r, api.OK
	}
	out := make(api.Row, len(q.list))
	for i, x := range q.list {
		v, e := x.Eval(t, r)
		if e != api.OK {
			return nil, e
		}
		out[i] = v
	}
	return out, api.OK
}

// names are those of the columns that a Select tells.
func (q *Stmt) names(t api.Table) []string {
	var l []string
	for _, x := range q.list {
		l = append(l, x.Print())
	}
	if len(q.list) > 0 {
		return l
	}
	for _, c := range t.Columns {
		l = append(l, c.Name)
	}
	return l
}
