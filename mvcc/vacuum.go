package mvcc

import "confluence/api"

// needed is what of a chain somebody may still ask for.
func (h *Heap) needed(c chain, l []api.Snapshot) chain {
	need := make([]bool, len(c))
	for i, v := range c {
		need[i] = h.ongoing(v)
	}
	mark := func(holds func(version) bool) {
		if i := c.place(holds); i >= 0 {
			need[i] = true
		}
	}
	mark(h.settled)
	for _, s := range l {
		mark(h.seenBy(s, 0))
	}
	var left chain // new, so that a long chain's room is not kept
	for i, v := range c {
		if need[i] && (len(left) > 0 || !h.goneForAll(v, l)) {
			left = append(left, v)
		}
	}
	return left
}

// goneForAll tells whether a version, as the oldest one, says no more than that there is none.
func (h *Heap) goneForAll(v version, l []api.Snapshot) bool {
	if v.there || !h.settled(v) {
		return false
	}
	for _, s := range l {
		if !h.xacts.Sees(s, 0, v.writer) {
			return false
		}
	}
	return true
}
