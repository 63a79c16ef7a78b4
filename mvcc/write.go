package mvcc

import (
	"slices"

	"confluence/api"
)

// write lays a version upon a chain, and takes it back if what stood there does not let it lie: the row that stood there.
func (h *Heap) write(table int, key string, next version, sees func(version) bool, may func(version) api.Errno) (api.Row, api.Errno) {
	was, undo := h.lay(table, key, next)
	done := false
	defer func() {
		if !done {
			undo()
		}
	}()
	old, stands := was.newest(h.stands)
	if stands && !sees(old) {
		return nil, api.ErrRowConflict
	}
	if e := may(old); e != api.OK {
		return nil, e
	}
	done = true
	return slices.Clone(old.row), api.OK
}

// lay lays a version upon a chain, which may have none yet: the chain as it was, and what puts all back to that.
func (h *Heap) lay(table int, key string, v version) (chain, func()) {
	l := h.tables[table]
	if l == nil {
		l = chains{}
		h.tables[table] = l
	}
	c := l[key]
	if c == nil {
		c = new(chain)
		l[key] = c
	}
	was := *c
	*c = append(was, v)
	return was, func() {
		clear((*c)[len(was):]) // was may have the same room, in which the row would be kept
		*c = was
		h.tidy(table, key)
	}
}

// mayInsert and mayReplace tell what speaks against a write upon a version, or upon none.
func mayInsert(old version) api.Errno {
	if old.there {
		return api.ErrRowThere
	}
	return api.OK
}

func mayReplace(old version) api.Errno {
	if !old.there {
		return api.ErrRowNone
	}
	return api.OK
}
