package slot_test

import (
	"slices"
	"testing"

	"confluence/api"
)

func TestL5None(t *testing.T) {
	for n := range 4 {
		d, s := begun(t, room, some(n)...)
		before := bytesOf(d)
		costs(t, d, 0, "Drop of none", func() {
			for _, name := range append([]string{"a", "bb", "b_", "z"}, noNames...) {
				is(t, "Drop", s.Drop(name), api.ErrSlotNone)
			}
		})
		knows(t, s, some(n)...)
		holds(t, d, before...)
		kill(t, d)
		is(t, "Drop of a dead disk", s.Drop("a"), api.ErrSlotNone)
	}
}

// TestL5Each: each of so many, and then the others, to the last: behind that the file says that there are none.
func TestL5Each(t *testing.T) {
	for n := 1; n <= 8; n++ {
		for i := range n {
			l := some(n)
			d, s := begun(t, room, l...)
			at := i
			for len(l) > 0 {
				at %= len(l)
				name := l[at].Name
				l = slices.Delete(l, at, at+1)
				costs(t, d, 4, "Drop", func() { is(t, "Drop", s.Drop(name), api.OK) })
				knows(t, s, l...)
				getsNone(t, s, name)
				is(t, "Drop again", s.Drop(name), api.ErrSlotNone)
				is(t, "Advance of it", s.Advance(name, top, top), api.ErrSlotNone)
				holds(t, d, slotsFile(fileOf(l...)))
				finds(t, d, l...)
				at += i
			}
		}
	}
}

// TestL5Anew: a name that was dropped may be had again, also by a slot that is behind where the other was.
func TestL5Anew(t *testing.T) {
	d, s := begun(t, room)
	for range 3 {
		is(t, "Create", s.Create(one("a", 9000, 9000)), api.OK)
		is(t, "Advance", s.Advance("a", top, top), api.OK)
		is(t, "Drop", s.Drop("a"), api.OK)
		is(t, "Create", s.Create(one("a", first, first)), api.OK)
		finds(t, d, one("a", first, first))
		is(t, "Drop", s.Drop("a"), api.OK)
		finds(t, d)
	}
}
