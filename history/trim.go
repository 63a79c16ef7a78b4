package history

// Trim forgets what was ahead of a position; how many notes.
func (h *History) Trim(lsn int) int {
	if lsn <= h.begin {
		return 0
	}
	h.begin, h.last = lsn, max(h.last, lsn)
	forgotten := 0
	for _, id := range h.numbers() {
		forgotten += h.forget(id)
	}
	return forgotten
}

// forget forgets of a number what nobody can ask for any more; how many notes.
func (h *History) forget(id int) int {
	n := h.upTo(h.begin, id)
	// The last of these says how the table was at the beginning; that it was gone is also said by no note at all.
	if h.was(h.begin, id).there {
		n--
	}
	s := h.spans[id]
	for place := range n {
		delete(h.notes, key{id, s.first + place})
	}
	s.first += n
	h.spans[id] = s
	if s.first == s.behind {
		delete(h.spans, id)
	}
	return n
}
