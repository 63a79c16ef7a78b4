package catalog

import (
	"slices"

	"confluence/api"
)

// creation, removal, widening and putting are changes with all that they need but the catalog.
type (
	creation struct {
		name    string
		columns []api.Column
		key     int
	}
	removal  struct{ name string }
	widening struct {
		name   string
		column api.Column
	}
	putting struct{ table api.Table }
)

// Create makes a table.
func (c *Catalog) Create(name string, columns []api.Column, key int) (api.Table, api.Errno) {
	return c.change(creation{name, columns, key}.on)
}

// Drop takes one away.
func (c *Catalog) Drop(name string) (api.Table, api.Errno) { return c.change(removal{name}.on) }

// Widen gives one a further column.
func (c *Catalog) Widen(name string, x api.Column) (api.Table, api.Errno) {
	return c.change(widening{name, x}.on)
}

// Put lets a table be as it is told: one that is there, or the next one.
func (c *Catalog) Put(t api.Table) api.Errno {
	_, e := c.change(putting{t}.on)
	return e
}

// change tries one on a clone: a change that gives up halfway has done nothing to c.
func (c *Catalog) change(on func(*Catalog) (api.Table, api.Errno)) (api.Table, api.Errno) {
	d := c.Clone()
	t, e := on(d)
	if e != api.OK {
		clear(d.tables)
		return api.Table{}, e
	}
	*c = *d
	return copied(t), api.OK
}

func (x creation) on(c *Catalog) (api.Table, api.Errno) {
	switch {
	case !isName(x.name):
		return api.Table{}, api.ErrTableName
	case c.placeOf(x.name) >= 0:
		return api.Table{}, api.ErrTableThere
	case len(c.tables) == api.MaxTables || c.given == api.MaxXid:
		return api.Table{}, api.ErrTableMany
	}
	t := api.Table{ID: c.Next(), Version: 1, Name: x.name, Columns: x.columns, Key: x.key}
	if e := Right(t); e != api.OK {
		return api.Table{}, e
	}
	c.add(t)
	return t, api.OK
}

func (x removal) on(c *Catalog) (api.Table, api.Errno) {
	at := c.placeOf(x.name)
	if at < 0 {
		return api.Table{}, api.ErrTableNone
	}
	t := c.tables[at]
	c.tables = slices.Delete(c.tables, at, at+1)
	return t, api.OK
}

// on lays the column behind the others ahead of asking whether all of them are right: they were, so what is wrong is the last one.
func (x widening) on(c *Catalog) (api.Table, api.Errno) {
	at := c.placeOf(x.name)
	if at < 0 {
		return api.Table{}, api.ErrTableNone
	}
	t := &c.tables[at]
	t.Columns = append(t.Columns, x.column)
	if e := wrongColumns(t.Columns); e != api.OK {
		return api.Table{}, e
	}
	if !x.column.Null || t.Version == api.MaxXid {
		return api.Table{}, api.ErrArg
	}
	t.Version++
	return *t, api.OK
}

func (x putting) on(c *Catalog) (api.Table, api.Errno) {
	if e := Right(x.table); e != api.OK {
		return api.Table{}, e
	}
	at, named := c.placeOfID(x.table.ID), c.placeOf(x.table.Name)
	switch {
	case at < 0 && x.table.ID != c.Next():
		return api.Table{}, api.ErrTableNone
	case named >= 0 && named != at:
		return api.Table{}, api.ErrTableThere
	case at < 0 && len(c.tables) == api.MaxTables:
		return api.Table{}, api.ErrTableMany
	case at < 0:
		c.add(x.table)
	default:
		c.tables[at] = copied(x.table)
	}
	return x.table, api.OK
}
