package apply

import (
	"slices"

	"confluence/api"
)

// follower is a local table that follows one that was told.
type follower struct {
	told, local api.Table
	places      []int // of the told columns among the local ones
}

// follow is the local table that follows one that is told; false: none does.
func (a *Applier) follow(told api.Table) (follower, bool) {
	l := a.store.Tables()
	i := slices.IndexFunc(l, func(t api.Table) bool { return t.Name == told.Name })
	if i < 0 {
		return follower{}, false
	}
	f := follower{told: told, local: l[i]}
	for _, c := range told.Columns {
		place := slices.IndexFunc(f.local.Columns, func(x api.Column) bool { return x.Name == c.Name && x.Kind == c.Kind })
		if place < 0 {
			return follower{}, false
		}
		f.places = append(f.places, place)
	}
	return f, f.hasKey() && f.canBeNull()
}

func (f follower) hasKey() bool { return f.places[f.told.Key] == f.local.Key }

// canBeNull tells whether all that is not told may be null.
func (f follower) canBeNull() bool {
	for i, c := range f.local.Columns {
		if !c.Null && !slices.Contains(f.places, i) {
			return false
		}
	}
	return true
}

// key is that of a row that comes.
func (f follower) key(r api.Row) api.Value { return r[f.told.Key] }

// made is the local row that one makes that comes, where this one was, or none.
func (f follower) made(old, r api.Row) api.Row {
	row := make(api.Row, len(f.local.Columns))
	copy(row, old)
	for i, place := range f.places {
		row[place] = r[i]
	}
	return row
}
