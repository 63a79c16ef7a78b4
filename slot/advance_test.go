package slot_test

import (
	"math"
	"testing"

	"confluence/api"
)

func TestL4None(t *testing.T) {
	d, s := begun(t, room, some(3)...)
	costs(t, d, 0, "Advance of none", func() {
		for _, name := range append([]string{"a", "bb", "z"}, noNames...) {
			for _, n := range []int{9000, 0, -1, top, top + 1, math.MinInt, math.MaxInt} {
				is(t, "Advance", s.Advance(name, n, n), api.ErrSlotNone)
				is(t, "Advance", s.Advance(name, n, 9000), api.ErrSlotNone)
				is(t, "Advance", s.Advance(name, 9000, n), api.ErrSlotNone)
			}
		}
	})
	knows(t, s, some(3)...)
}

// advanced is what the words say of two numbers, of a slot at its places.
func advanced(x api.Slot, confirmed, restart int) (api.Errno, bool) {
	switch {
	case !ruledPlaces(confirmed, restart):
		return api.ErrArg, false
	case confirmed < x.Confirmed || restart < x.Restart:
		return api.ErrSlotBack, false
	}
	return api.OK, confirmed != x.Confirmed || restart != x.Restart
}

// TestL4Pairs: all pairs of numbers around all that matter, of slots at several places: the answer, the acts, what is told and found behind it.
func TestL4Pairs(t *testing.T) {
	for _, x := range []api.Slot{one("m", 9000, 8500), one("m", first, first), one("m", top, top), one("m", top, first), one("m", 9000, 9000), one("m", top-1, top-1), one("m", 9000, 8999)} {
		edges := append([]int{first, first + 1, top - 1, top, x.Confirmed - 1, x.Confirmed, x.Confirmed + 1, x.Restart - 1, x.Restart, x.Restart + 1}, noPositions...)
		l := []api.Slot{one("a", top, first), x, one("z", first, first)}
		for _, confirmed := range edges {
			for _, restart := range edges {
				d, s := begun(t, room, l...)
				want, writes := advanced(x, confirmed, restart)
				acts, behind := 0, l
				if writes {
					acts, behind = 4, with(l, 1, confirmed, restart)
				}
				costs(t, d, acts, "Advance", func() {
					if e := s.Advance("m", confirmed, restart); e != want {
						t.Errorf("Advance(m, %d, %d) of %d, %d: %d, want %d", confirmed, restart, x.Confirmed, x.Restart, e, want)
					}
				})
				knows(t, s, behind...)
				holds(t, d, slotsFile(fileOf(behind...)))
			}
		}
	}
}

func TestL4Each(t *testing.T) {
	l := some(8)
	d, s := begun(t, room, l...)
	for i, x := range l {
		for _, by := range [][2]int{{1, 0}, {0, 1}, {10, 10}, {0, 0}, {100000, 5}} {
			x.Confirmed += by[0]
			x.Restart += by[1]
			l = with(l, i, x.Confirmed, x.Restart)
			is(t, "Advance", s.Advance(x.Name, x.Confirmed, x.Restart), api.OK)
			knows(t, s, l...)
			finds(t, d, l...)
		}
	}
	for i, x := range l {
		l = with(l, i, top, top)
		is(t, "Advance to the last", s.Advance(x.Name, top, top), api.OK)
		is(t, "Advance beyond", s.Advance(x.Name, top+1, top), api.ErrArg)
		is(t, "Advance beyond", s.Advance(x.Name, top+1, top+1), api.ErrArg)
		knows(t, s, l...)
	}
	finds(t, d, l...)
}

// TestL4FirstNamed: ErrArg also where one is below what it is; refused calls answer the same of a dead disk, and what is as it is needs no disk.
func TestL4FirstNamed(t *testing.T) {
	x := one("a", 9000, 8500)
	d, s := begun(t, len(fileOf(x)), x)
	check := func() {
		t.Helper()
		is(t, "none, and no places", s.Advance("b", 0, 1), api.ErrSlotNone)
		is(t, "restart above confirmed, which is back", s.Advance("a", 8600, 8700), api.ErrArg)
		is(t, "no position, back", s.Advance("a", 8999, 8191), api.ErrArg)
		is(t, "no position, back", s.Advance("a", 0, 0), api.ErrArg)
		is(t, "back", s.Advance("a", 8999, 8500), api.ErrSlotBack)
		is(t, "back", s.Advance("a", 9000, 8499), api.ErrSlotBack)
		is(t, "one back, one on", s.Advance("a", 9500, 8499), api.ErrSlotBack)
		is(t, "one back, one on", s.Advance("a", 8999, 8600), api.ErrSlotBack)
		is(t, "as it is", s.Advance("a", 9000, 8500), api.OK)
		knows(t, s, x)
	}
	check()
	is(t, "no room", s.Advance("a", 9001, 8500), api.ErrFileFull)
	check()
	is(t, "Arm", d.Arm(1), api.OK)
	check()
	if d.Dead() {
		t.Error("none of this is an act")
	}
	is(t, "it dies", s.Advance("a", 9001, 8500), api.ErrDead)
	check()
}
