package history

import (
	"maps"
	"slices"

	"confluence/api"
)

// At tells a table as it was at a position.
func (h *History) At(lsn, id int) (api.Table, api.Errno) {
	if lsn < h.begin {
		return api.Table{}, api.ErrHistoryNone
	}
	n := h.was(lsn, id)
	if !n.there {
		return api.Table{}, api.ErrHistoryNone
	}
	return copied(n.table), api.OK
}

// List tells all tables as they were, by rising numbers.
func (h *History) List(lsn int) ([]api.Table, api.Errno) {
	if lsn < h.begin {
		return nil, api.ErrHistoryNone
	}
	var l []api.Table
	for _, id := range h.numbers() {
		if n := h.was(lsn, id); n.there {
			l = append(l, copied(n.table))
		}
	}
	return l, api.OK
}

// numbers are those that have notes, rising.
func (h *History) numbers() []int { return slices.Sorted(maps.Keys(h.spans)) }

// was is the note that says how the table of a number was at a position.
func (h *History) was(lsn, id int) note {
	n := h.upTo(lsn, id)
	if n == 0 {
		return note{}
	}
	return h.notes[key{id, h.spans[id].first + n - 1}]
}

// upTo tells how many notes of a number are not above a position.
// It begins with the newest one: who reads a log on asks of what is near its end.
func (h *History) upTo(lsn, id int) int {
	s := h.spans[id]
	all := s.behind - s.first
	for above := range all {
		if h.notes[key{id, s.behind - 1 - above}].lsn <= lsn {
			return all - above
		}
	}
	return 0
}
