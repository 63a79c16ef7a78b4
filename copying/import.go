package copying

import (
	"slices"

	"confluence/api"
	"confluence/store"
)

// follower is a local table that follows one of a copy.
type follower struct {
	table
	local  api.Table
	places []int // of the copy's columns among the local ones
}

// followers are those of a copy's tables, if each has one, and none of these has a row.
func followers(s *store.Store, c taken) ([]follower, api.Errno) {
	there := s.Tables()
	var l []follower
	for _, t := range c.tables {
		f, is := follow(there, t)
		if !is {
			return nil, api.ErrCopyTable
		}
		l = append(l, f)
	}
	if slices.ContainsFunc(l, func(f follower) bool { return hasRows(s, f.local.Name) }) {
		return nil, api.ErrCopyThere
	}
	return l, api.OK
}

// follow is the one of the local tables that follows; false: none does.
func follow(there []api.Table, t table) (follower, bool) {
	i := slices.IndexFunc(there, func(x api.Table) bool { return x.Name == t.tab.Name })
	if i < 0 {
		return follower{}, false
	}
	f := follower{table: t, local: there[i]}
	for _, c := range t.tab.Columns {
		place := slices.IndexFunc(f.local.Columns, func(x api.Column) bool { return x.Name == c.Name && x.Kind == c.Kind })
		if place < 0 {
			return follower{}, false
		}
		f.places = append(f.places, place)
	}
	return f, f.places[t.tab.Key] == f.local.Key && f.canBeNull()
}

// canBeNull tells whether all that the copy does not have may be null.
func (f follower) canBeNull() bool {
	for i, c := range f.local.Columns {
		if !c.Null && !slices.Contains(f.places, i) {
			return false
		}
	}
	return true
}

// hasRows tells whether a table has a committed row.
func hasRows(s *store.Store, name string) bool {
	for range s.Scan(0, name) {
		return true
	}
	return false
}

// take does all in one transaction, and notes for the origin up to where the copy goes: how many rows there are.
func take(s *store.Store, origin string, lsn int, l []follower) (n int, e api.Errno) {
	x, e := s.Begin()
	if e != api.OK {
		return 0, e
	}
	defer func() {
		if e != api.OK {
			s.Abort(x) // what it says changes nothing: the error that came first is told
		}
	}()
	for _, f := range l {
		if e := f.insert(s, x); e != api.OK {
			return 0, e
		}
		n += len(f.rows)
	}
	if _, e := s.CommitFrom(x, origin, lsn); e != api.OK {
		return 0, e
	}
	return n, api.OK
}

// insert lays down all rows of a table.
func (f follower) insert(s *store.Store, x int) api.Errno {
	for _, r := range f.rows {
		if e := s.Insert(x, f.local.Name, f.made(r)); e != api.OK {
			return refusal(e)
		}
	}
	return api.OK
}

// made is the local row of one of the copy.
func (f follower) made(r api.Row) api.Row {
	row := make(api.Row, len(f.local.Columns))
	for i, place := range f.places {
		row[place] = r[i]
	}
	return row
}

// refusal is what is told of what the store says of a row. No committed one was there: so, where it fits, another
// transaction has written it.
func refusal(e api.Errno) api.Errno {
	switch e {
	case api.ErrDead, api.ErrStoreDoubt:
		return e
	case api.ErrRowFit:
		return api.ErrCopyTable
	}
	return api.ErrCopyThere
}
