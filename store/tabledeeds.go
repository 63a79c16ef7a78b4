package store

import (
	"confluence/api"
	"confluence/catalog"
)

// change lets a table be changed, if nobody who is not over has written it: the number of the change, behind which the tables are those that are told.
func (m *memory) change(table int, tables *catalog.Catalog) (int, api.Errno) {
	if m.heap.Written(table, 0) { // 0 is nobody's number, so whoever has written it counts
		return 0, api.ErrStoreWritten
	}
	xid, e := m.xacts.Begin()
	if e != api.OK {
		return 0, e
	}
	m.tables = tables
	return xid, m.xacts.Commit(xid)
}

func (m *memory) create(r api.Rec) (api.Rec, api.Errno) {
	tables := m.tables.Clone()
	t, e := tables.Create(r.Tab.Name, r.Tab.Columns, r.Tab.Key)
	if e != api.OK {
		return r, e
	}
	r.Tab = t
	r.Xid, e = m.change(t.ID, tables)
	return r, e
}

// widen needs no more of the table than its number and its last column, which it has: also in the log each table has columns.
func (m *memory) widen(r api.Rec) (api.Rec, api.Errno) {
	t, e := m.tables.ByID(r.Tab.ID)
	if e != api.OK {
		return r, e
	}
	tables := m.tables.Clone()
	r.Tab, e = tables.Widen(t.Name, r.Tab.Columns[len(r.Tab.Columns)-1])
	if e != api.OK {
		return r, e
	}
	r.Xid, e = m.change(t.ID, tables)
	return r, e
}

func (m *memory) drop(r api.Rec) (api.Rec, api.Errno) {
	t, e := m.tables.ByID(r.Table)
	if e != api.OK {
		return r, e
	}
	tables := m.tables.Clone()
	tables.Drop(t.Name)
	return m.clean(r, tables)
}

func (m *memory) empty(r api.Rec) (api.Rec, api.Errno) {
	if _, e := m.tables.ByID(r.Table); e != api.OK {
		return r, e
	}
	return m.clean(r, m.tables)
}

// clean is a change of a table behind which it has no rows.
func (m *memory) clean(r api.Rec, tables *catalog.Catalog) (api.Rec, api.Errno) {
	xid, e := m.change(r.Table, tables)
	if e != api.OK {
		return r, e
	}
	m.heap.Empty(r.Table)
	r.Xid = xid
	return r, api.OK
}

func (m *memory) checkpoint(r api.Rec) (api.Rec, api.Errno) {
	if len(m.xacts.Open()) > 0 {
		return r, api.ErrStoreBusy
	}
	return api.Rec{Kind: r.Kind, Xid: m.xacts.Next(), Table: m.tables.Next(), Tabs: m.tables.List()}, api.OK
}
