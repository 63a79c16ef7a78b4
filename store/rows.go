package store

import (
	"iter"

	"confluence/api"
	"confluence/catalog"
	"confluence/value"
)

// Insert, Update and Delete write a row of a table.
func (s *Store) Insert(xid int, table string, r api.Row) api.Errno {
	return s.writeRow(xid, table, func(api.Table) api.Rec { return api.Rec{Kind: api.RecInsert, New: r} })
}

// Update writes one anew, by its key.
func (s *Store) Update(xid int, table string, r api.Row) api.Errno {
	return s.writeRow(xid, table, func(api.Table) api.Rec { return api.Rec{Kind: api.RecUpdate, New: r} })
}

// Delete takes one away, by its key.
func (s *Store) Delete(xid int, table string, key api.Value) api.Errno {
	return s.writeRow(xid, table, func(t api.Table) api.Rec {
		old := make(api.Row, t.Key+1)
		old[t.Key] = key
		return api.Rec{Kind: api.RecDelete, Old: old}
	})
}

// writeRow writes what is wanted of a table, under the number that writes for a transaction.
func (s *Store) writeRow(xid int, table string, wanted func(api.Table) api.Rec) api.Errno {
	return s.just(func() (int, api.Errno) {
		x, e := s.transaction(xid)
		if e != api.OK {
			return 0, e
		}
		t, e := s.tables.Get(table)
		if e != api.OK {
			return 0, e
		}
		r := wanted(t)
		r.Xid, r.Table = x.writer(), t.ID
		return s.write(r)
	})
}

// Get tells one.
func (s *Store) Get(xid int, table string, key api.Value) (api.Row, api.Errno) {
	if s.doubt {
		return nil, s.refusal()
	}
	seen, t, e := s.looks(xid, table)
	switch {
	case e != api.OK:
		return nil, e
	case !isKey(t, key):
		return nil, api.ErrRowFit
	}
	k, _ := value.Key(key)
	r, e := s.heap.Get(seen, xid, t.ID, k)
	if e != api.OK {
		return nil, e
	}
	return catalog.Fit(t, r)
}

// Scan goes over a table's rows by rising keys.
func (s *Store) Scan(xid int, table string) iter.Seq[api.Row] {
	return func(yield func(api.Row) bool) {
		seen, t, e := s.looks(xid, table)
		if e != api.OK {
			return
		}
		for _, r := range s.heap.Scan(seen, xid, t.ID) {
			full, _ := catalog.Fit(t, r)
			if !yield(full) {
				return
			}
		}
	}
}

// looks is what somebody who reads a table needs: what is seen, and the table.
func (m *memory) looks(xid int, table string) (api.Snapshot, api.Table, api.Errno) {
	seen, e := m.view(xid)
	if e != api.OK {
		return api.Snapshot{}, api.Table{}, e
	}
	t, e := m.tables.Get(table)
	return seen, t, e
}
