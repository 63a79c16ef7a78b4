package query

import (
	"slices"

	"confluence/api"
	"confluence/store"
)

// deed is how statements of one kind are done. What it answers beside an error counts for nothing.
type deed func(*Stmt, *store.Store, int) (api.Answer, api.Errno)

// deeds has one for each kind but the session's.
func deeds() [Select + 1]deed {
	return [...]deed{
		Create: (*Stmt).create,
		Drop:   (*Stmt).drop,
		Widen:  (*Stmt).widen,
		Empty:  (*Stmt).empty,
		Insert: (*Stmt).insert,
		Update: (*Stmt).update,
		Delete: (*Stmt).delete,
		Select: (*Stmt).choose,
	}
}

// Run does it in a transaction (a change of tables: in none, xid 0).
func (q *Stmt) Run(s *store.Store, xid int) api.Answer {
	if e := q.refusal(s, xid); e != api.OK {
		return api.Answer{Code: e}
	}
	a, e := deeds()[q.kind](q, s, xid)
	if e != api.OK {
		return api.Answer{Code: e}
	}
	return a
}

// refusal tells why it can't be begun: OK, if it can.
func (q *Stmt) refusal(s *store.Store, xid int) api.Errno {
	inside := xid != 0
	switch {
	case s.Doubt() && s.Disk().Dead():
		return api.ErrDead
	case s.Doubt():
		return api.ErrStoreDoubt
	case q.kind < Create || q.kind > Select:
		return api.ErrArg
	case q.kind <= Empty && inside:
		return api.ErrQueryInside
	case q.kind >= Insert && q.kind <= Delete && !inside:
		return api.ErrQueryOutside
	case inside && !slices.Contains(s.Active(), xid):
		return api.ErrStoreNone
	}
	return api.OK
}

func (q *Stmt) create(s *store.Store, _ int) (api.Answer, api.Errno) {
	_, e := s.CreateTable(q.table, q.columns, q.key)
	return api.Answer{}, e
}

func (q *Stmt) drop(s *store.Store, _ int) (api.Answer, api.Errno) {
	_, e := s.DropTable(q.table)
	return api.Answer{}, e
}

func (q *Stmt) widen(s *store.Store, _ int) (api.Answer, api.Errno) {
	_, e := s.WidenTable(q.table, q.columns[0])
	return api.Answer{}, e
}

func (q *Stmt) empty(s *store.Store, _ int) (api.Answer, api.Errno) {
	_, e := s.EmptyTable(q.table)
	return api.Answer{}, e
}

func (q *Stmt) insert(s *store.Store, xid int) (api.Answer, api.Errno) {
	return writeAll(q.rows, func(r api.Row) api.Errno { return s.Insert(xid, q.table, r) })
}

func (q *Stmt) update(s *store.Store, xid int) (api.Answer, api.Errno) {
	t, rows, e := q.look(s, xid)
	if e != api.OK {
		return api.Answer{}, e
	}
	// All are worked out ahead of writing one.
	rows, e = each(rows, func(r api.Row) (api.Row, api.Errno) { return q.renewed(t, r) })
	if e != api.OK {
		return api.Answer{}, e
	}
	return writeAll(rows, func(r api.Row) api.Errno { return s.Update(xid, q.table, r) })
}

func (q *Stmt) delete(s *store.Store, xid int) (api.Answer, api.Errno) {
	t, rows, e := q.look(s, xid)
	if e != api.OK {
		return api.Answer{}, e
	}
	return writeAll(rows, func(r api.Row) api.Errno { return s.Delete(xid, q.table, r[t.Key]) })
}

func (q *Stmt) choose(s *store.Store, xid int) (api.Answer, api.Errno) {
	t, rows, e := q.look(s, xid)
	if e != api.OK {
		return api.Answer{}, e
	}
	rows, e = q.ordered(t, rows)
	if e != api.OK {
		return api.Answer{}, e
	}
	rows, e = each(q.first(rows), func(r api.Row) (api.Row, api.Errno) { return q.told(t, r) })
	return api.Answer{Count: len(rows), Names: q.names(t), Rows: rows}, e
}

// writeAll writes rows one by one; what was written ahead of an error stays.
func writeAll(rows []api.Row, write func(api.Row) api.Errno) (api.Answer, api.Errno) {
	for _, r := range rows {
		if e := write(r); e != api.OK {
			return api.Answer{}, e
		}
	}
	return api.Answer{Count: len(rows)}, api.OK
}

// each works something out of each row; the first error ends it.
func each[T any](rows []api.Row, work func(api.Row) (T, api.Errno)) ([]T, api.Errno) {
	l := make([]T, len(rows))
	for i, r := range rows {
		x, e := work(r)
		if e != api.OK {
			return nil, e
		}
		l[i] = x
	}
	return l, api.OK
}
