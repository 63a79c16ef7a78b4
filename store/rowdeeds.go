package store

import (
	"confluence/api"
	"confluence/catalog"
	"confluence/value"
)

// place is what a change of a row needs: what is seen by who writes, and the table.
func (m *memory) place(r api.Rec) (api.Snapshot, api.Table, api.Errno) {
	if m.xacts.State(r.Xid) != api.Open {
		return api.Snapshot{}, api.Table{}, api.ErrStoreNone
	}
	top, _ := m.xacts.Top(r.Xid)
	t, e := m.tables.ByID(r.Table)
	return m.active[top].snapshot, t, e
}

func (m *memory) insert(r api.Rec) (api.Rec, api.Errno) {
	s, t, e := m.place(r)
	if e != api.OK {
		return r, e
	}
	r.New, e = catalog.Fit(t, r.New)
	if e != api.OK {
		return r, e
	}
	return r, m.heap.Insert(s, r.Xid, t.ID, keyOf(t, r.New), r.New)
}

func (m *memory) update(r api.Rec) (api.Rec, api.Errno) {
	s, t, e := m.place(r)
	if e != api.OK {
		return r, e
	}
	r.New, e = catalog.Fit(t, r.New)
	if e != api.OK {
		return r, e
	}
	old, e := m.heap.Update(s, r.Xid, t.ID, keyOf(t, r.New), r.New)
	if e != api.OK {
		return r, e
	}
	r.Old, e = catalog.Fit(t, old)
	return r, e
}

// remove needs no more of the old row than its key.
func (m *memory) remove(r api.Rec) (api.Rec, api.Errno) {
	s, t, e := m.place(r)
	if e != api.OK {
		return r, e
	}
	if len(r.Old) <= t.Key || !isKey(t, r.Old[t.Key]) {
		return r, api.ErrRowFit
	}
	old, e := m.heap.Delete(s, r.Xid, t.ID, keyOf(t, r.Old))
	if e != api.OK {
		return r, e
	}
	r.Old, e = catalog.Fit(t, old)
	return r, e
}

// isKey tells whether a value may be the key of a row of a table.
func isKey(t api.Table, v api.Value) bool { return value.Fits(v, t.Columns[t.Key]) == api.OK }
