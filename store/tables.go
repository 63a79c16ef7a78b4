package store

import "confluence/api"

// CreateTable makes a table; DropTable, WidenTable, EmptyTable change one: at once, each a transaction of its own.
func (s *Store) CreateTable(name string, columns []api.Column, key int) (int, api.Errno) {
	return s.call(func() (int, api.Errno) {
		return s.writeLasting(api.Rec{Kind: api.RecCreate, Tab: api.Table{Name: name, Columns: columns, Key: key}})
	})
}

// DropTable takes one away.
func (s *Store) DropTable(name string) (int, api.Errno) {
	return s.changeTable(name, func(t api.Table) api.Rec { return api.Rec{Kind: api.RecDrop, Table: t.ID} })
}

// WidenTable gives one a column.
func (s *Store) WidenTable(name string, c api.Column) (int, api.Errno) {
	return s.changeTable(name, func(t api.Table) api.Rec {
		return api.Rec{Kind: api.RecWiden, Tab: api.Table{ID: t.ID, Columns: []api.Column{c}}}
	})
}

// EmptyTable forgets its rows.
func (s *Store) EmptyTable(name string) (int, api.Errno) {
	return s.changeTable(name, func(t api.Table) api.Rec { return api.Rec{Kind: api.RecEmpty, Table: t.ID} })
}

// changeTable does what is wanted of the table of a name.
func (s *Store) changeTable(name string, wanted func(api.Table) api.Rec) (int, api.Errno) {
	return s.call(func() (int, api.Errno) {
		t, e := s.tables.Get(name)
		if e != api.OK {
			return 0, e
		}
		return s.writeLasting(wanted(t))
	})
}
