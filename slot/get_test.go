package slot_test

import (
	"testing"

	"confluence/api"
	"confluence/slot"
)

// getsNone holds that a name is none's.
func getsNone(t *testing.T, s *slot.Slots, name string) {
	t.Helper()
	if x, e := s.Get(name); !isZero(x) || e != api.ErrSlotNone {
		t.Errorf("Get(%.40q): %+v, %d", name, x, e)
	}
}

func TestL3None(t *testing.T) {
	for n := range 9 {
		_, s := begun(t, room, some(n)...)
		for _, name := range append([]string{"a", "b0", "bb", "c_", "zz", "B"}, noNames...) {
			getsNone(t, s, name)
		}
		knows(t, s, some(n)...)
	}
}

func TestL3Nothing(t *testing.T) {
	for _, l := range [][]api.File{nil, {slotsFile(fileOf())}, {asideFile(fileOf(some(1)...))}} {
		s := opened(t, loaded(t, room, l...))
		if n, any := s.Least(); n != 0 || any || len(s.List()) != 0 {
			t.Errorf("of nothing: %d, %t, %v", n, any, s.List())
		}
		getsNone(t, s, "a")
	}
}

// TestL3Least: whichever slot has the least, and that of several that have it, too.
func TestL3Least(t *testing.T) {
	for _, c := range []struct {
		restarts []int
		want     int
	}{{[]int{first}, first}, {[]int{top}, top}, {[]int{9000}, 9000}, {[]int{first, top}, first}, {[]int{top, first}, first}, {[]int{9, 8, 7, 6, 5, 4, 3, 2}, 2}, {[]int{2, 3, 4, 5, 6, 7, 8, 9}, 2}, {[]int{5, 3, 4}, 3}, {[]int{5, 5, 5}, 5}, {[]int{top, top}, top}} {
		var l []api.Slot
		for i, n := range c.restarts {
			if n < first {
				n += first
			}
			l = append(l, one(string(rune('a'+i)), top, n))
		}
		want := c.want
		if want < first {
			want += first
		}
		_, s := begun(t, room, l...)
		if n, any := s.Least(); n != want || !any {
			t.Errorf("Least of %v: %d, %t, want %d", c.restarts, n, any, want)
		}
		knows(t, s, l...)
	}
}

// TestL3LeastFollows: it is the least of those that there are now.
func TestL3LeastFollows(t *testing.T) {
	_, s := begun(t, room)
	least := func(want int, wantAny bool) {
		t.Helper()
		if n, any := s.Least(); n != want || any != wantAny {
			t.Errorf("Least: %d, %t, want %d, %t", n, any, want, wantAny)
		}
	}
	least(0, false)
	is(t, "Create", s.Create(one("b", 20000, 10000)), api.OK)
	least(10000, true)
	is(t, "Create", s.Create(one("a", 20000, 9000)), api.OK)
	least(9000, true)
	is(t, "Create", s.Create(one("c", 20000, 15000)), api.OK)
	least(9000, true)
	is(t, "Advance", s.Advance("a", 20000, 12000), api.OK)
	least(10000, true)
	is(t, "Advance", s.Advance("a", 20000, 8999), api.ErrSlotBack)
	least(10000, true)
	is(t, "Drop", s.Drop("b"), api.OK)
	least(12000, true)
	is(t, "Drop", s.Drop("a"), api.OK)
	least(15000, true)
	is(t, "Drop", s.Drop("c"), api.OK)
	least(0, false)
}

// TestL3NoDisk: they ask no disk, be it armed, dead, or written by others.
func TestL3NoDisk(t *testing.T) {
	l := some(3)
	d, s := begun(t, room, l...)
	costs(t, d, 0, "what is told", func() {
		knows(t, s, l...)
		getsNone(t, s, "a")
	})
	kill(t, d)
	knows(t, s, l...)
	getsNone(t, s, "a")
	revive(t, d)
	is(t, "Remove", d.Remove("slots"), api.OK)
	knows(t, s, l...)
	is(t, "Create", d.Create("slots"), api.OK)
	is(t, "Append", d.Append("slots", "others"), api.OK)
	knows(t, s, l...)
}
