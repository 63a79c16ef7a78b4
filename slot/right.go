package slot

import (
	"confluence/api"
	"confluence/publish"
)

// The first position that a log has, and the one behind its last.
const (
	firstPosition = api.SegmentSize
	lastPosition  = (api.MaxSegments + 1) * api.SegmentSize
)

// isRight tells whether a slot may be, but for its publication.
func isRight(x api.Slot) bool { return isName(x.Name) && arePlaces(x.Confirmed, x.Restart) }

// arePlaces tells whether a slot may have come so far, and be read again from there.
func arePlaces(confirmed, restart int) bool {
	return isPosition(confirmed) && isPosition(restart) && restart <= confirmed
}

func isPosition(n int) bool { return n >= firstPosition && n <= lastPosition }

// isName asks layer 18, which knows names: one is a name just if a publication may have it.
func isName(s string) bool {
	p := api.Publication{Name: s, Tables: []api.Published{{Table: "t", Kinds: api.PubInsert}}}
	return publish.Right(p) == api.OK
}
