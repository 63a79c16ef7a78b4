package spill_test

import (
	"math"
	"slices"
	"testing"

	"confluence/api"
	"confluence/files"
	"confluence/spill"
)

// numbers are such as have no segments in stores of these tests.
func numbers() []int {
	return []int{0, 1, -1, -7, 8, 77, api.MaxXid, api.MaxXid + 1, math.MaxInt, math.MinInt}
}

// TestS3Tells: behind each call, what there is, by rising numbers.
func TestS3Tells(t *testing.T) {
	d, s := begun(t, 100000)
	knows(t, s)
	for _, x := range []struct {
		xid  int
		want [][2]int
	}{
		{10, [][2]int{{10, 1}}},
		{9, [][2]int{{9, 1}, {10, 1}}},
		{10, [][2]int{{9, 1}, {10, 2}}},
		{100, [][2]int{{9, 1}, {10, 2}, {100, 1}}},
		{2, [][2]int{{2, 1}, {9, 1}, {10, 2}, {100, 1}}},
		{10, [][2]int{{2, 1}, {9, 1}, {10, 3}, {100, 1}}},
	} {
		writes(t, s, x.xid, api.OK, change(1, x.xid))
		knows(t, s, x.want...)
		writes(t, s, 10, api.ErrArg)
		knows(t, s, x.want...)
	}
	for _, xid := range numbers() {
		if n := s.Segments(xid); n != 0 {
			t.Errorf("Segments(%d): %d", xid, n)
		}
	}
	is(t, "Remove", s.Remove(10), api.OK)
	knows(t, s, [2]int{2, 1}, [2]int{9, 1}, [2]int{100, 1})
	is(t, "Remove", s.Remove(2), api.OK)
	knows(t, s, [2]int{9, 1}, [2]int{100, 1})
	writes(t, s, 2, api.OK, change(1, 2))
	knows(t, s, [2]int{2, 1}, [2]int{9, 1}, [2]int{100, 1})
	lists(t, d, named(100, 0), named(2, 0), named(9, 0))
}

// TestS3AsksNoDisk: on a dead disk, and of one whose files others have taken away.
func TestS3AsksNoDisk(t *testing.T) {
	d, s := begun(t, 100000)
	writes(t, s, 7, api.OK, change(1, 7))
	writes(t, s, 7, api.OK, change(2, 7))
	writes(t, s, 3, api.OK, change(3, 3))
	want := [][2]int{{3, 1}, {7, 2}}
	costs(t, d, 0, "Segments and All", func() { knows(t, s, want...) })
	kill(t, d)
	knows(t, s, want...)
	is(t, "Crash", d.Crash(nil), api.OK)
	knows(t, s, want...)
	for _, name := range d.List() {
		is(t, "Remove of "+name, d.Remove(name), api.OK)
		knows(t, s, want...)
	}
	opened(t, d, "a")
	knows(t, s, want...)
}

func TestS4Nothing(t *testing.T) {
	d, s := begun(t, 100000)
	writes(t, s, 7, api.OK, change(1, 7))
	was := bytesOf(d)
	costs(t, d, 0, "Remove of nothing", func() {
		for _, xid := range numbers() {
			is(t, "Remove", s.Remove(xid), api.OK)
		}
	})
	holds(t, d, was...)
	kill(t, d)
	for _, xid := range numbers() {
		is(t, "Remove of nothing on a dead disk", s.Remove(xid), api.OK)
	}
	is(t, "Remove on a dead disk", s.Remove(7), api.ErrDead)
	knows(t, s, [2]int{7, 1})
	revive(t, d)
	holds(t, d, was...)
}

// several is a disk with a store whose transaction 7 has so many segments, and 3 and 77 have one each.
func several(t *testing.T, count int) (*files.Disk, *spill.Store) {
	t.Helper()
	d, s := begun(t, 100000)
	writes(t, s, 3, api.OK, change(1, 3))
	for k := range count {
		writes(t, s, 7, api.OK, changes(10*(k+1), 7, k+1)...)
	}
	writes(t, s, 77, api.OK, change(2, 77))
	return d, s
}

// severalNames are the names of the files of several, but those of 7 that are not in l.
func severalNames(l ...int) []string {
	names := []string{named(3, 0), named(77, 0)}
	for _, k := range l {
		names = append(names, named(7, k))
	}
	slices.Sort(names)
	return names
}

func upTo(n int) []int {
	var l []int
	for k := range n {
		l = append(l, k)
	}
	return l
}

func TestS4Removes(t *testing.T) {
	for _, count := range []int{1, 2, 3, 12} {
		d, s := several(t, count)
		lists(t, d, severalNames(upTo(count)...)...)
		costs(t, d, count, "Remove", func() { is(t, "Remove", s.Remove(7), api.OK) })
		lists(t, d, severalNames()...)
		knows(t, s, [2]int{3, 1}, [2]int{77, 1})
		for k := range count {
			cursorNot(t, s, 7, k, api.ErrSpillNone)
		}
		costs(t, d, 0, "Remove again", func() { is(t, "Remove", s.Remove(7), api.OK) })
		writes(t, s, 7, api.OK, change(99, 7))
		lists(t, d, severalNames(0)...)
		reads(t, s, 7, 0, api.OK, change(99, 7))
		reads(t, s, 3, 0, api.OK, change(1, 3))
	}
}

// TestS4Dies: in whatever act it dies, the last ones are gone, and the others are there, and are read.
func TestS4Dies(t *testing.T) {
	const count = 12
	for n := range count {
		d, s := several(t, count)
		left := count - n
		is(t, "Arm", d.Arm(n+1), api.OK)
		for range 2 {
			is(t, "Remove in which the disk dies", s.Remove(7), api.ErrDead)
			lists(t, d, severalNames(upTo(left)...)...)
			knows(t, s, [2]int{3, 1}, [2]int{7, left}, [2]int{77, 1})
		}
		cursorNot(t, s, 7, left-1, api.ErrDead)
		cursorNot(t, s, 7, left, api.ErrSpillNone)
		revive(t, d)
		for k := range left {
			reads(t, s, 7, k, api.OK, changes(10*(k+1), 7, k+1)...)
		}
		if n%2 == 0 {
			writes(t, s, 7, api.OK, change(500, 7))
			reads(t, s, 7, left, api.OK, change(500, 7))
			left++
		}
		costs(t, d, left, "Remove behind it", func() { is(t, "Remove", s.Remove(7), api.OK) })
		lists(t, d, severalNames()...)
		knows(t, s, [2]int{3, 1}, [2]int{77, 1})
	}
}

// TestS4OthersRemoved: whichever files others have removed, these are segments still till Remove comes to them, and it goes on there.
func TestS4OthersRemoved(t *testing.T) {
	const count = 4
	for gone := range 1 << count {
		d, s := several(t, count)
		var there []int
		for k := range count {
			if gone>>k&1 == 0 {
				there = append(there, k)
			} else {
				is(t, "Remove of a file", d.Remove(named(7, k)), api.OK)
			}
		}
		knows(t, s, [2]int{3, 1}, [2]int{7, count}, [2]int{77, 1})
		for k := range count {
			if slices.Contains(there, k) {
				reads(t, s, 7, k, api.OK, changes(10*(k+1), 7, k+1)...)
			} else {
				reads(t, s, 7, k, api.ErrSpillNone)
			}
		}
		costs(t, d, len(there), "Remove", func() { is(t, "Remove", s.Remove(7), api.OK) })
		lists(t, d, severalNames()...)
		knows(t, s, [2]int{3, 1}, [2]int{77, 1})
	}
}

// TestS4OthersRemovedAndDies: what it came to is none any more, also where there was no file; where it dies, and ahead of that, all are still.
func TestS4OthersRemovedAndDies(t *testing.T) {
	const count = 5
	for gone := range 1 << count {
		var there []int
		for k := range count {
			if gone>>k&1 == 0 {
				there = append(there, k)
			}
		}
		for n := range there {
			d, s := several(t, count)
			for k := range count {
				if !slices.Contains(there, k) {
					is(t, "Remove of a file", d.Remove(named(7, k)), api.OK)
				}
			}
			is(t, "Arm", d.Arm(n+1), api.OK)
			dies := there[len(there)-1-n]
			is(t, "Remove", s.Remove(7), api.ErrDead)
			lists(t, d, severalNames(there[:len(there)-n]...)...)
			knows(t, s, [2]int{3, 1}, [2]int{7, dies + 1}, [2]int{77, 1})
			is(t, "Remove of a dead disk", s.Remove(7), api.ErrDead)
			knows(t, s, [2]int{3, 1}, [2]int{7, dies + 1}, [2]int{77, 1})
			revive(t, d)
			costs(t, d, len(there)-n, "Remove behind it", func() { is(t, "Remove", s.Remove(7), api.OK) })
			lists(t, d, severalNames()...)
		}
	}
}

// TestS4DeadAndGone: a dead disk refuses, also where all files have been removed by others.
func TestS4DeadAndGone(t *testing.T) {
	d, s := several(t, 3)
	for k := range 3 {
		is(t, "Remove of a file", d.Remove(named(7, k)), api.OK)
	}
	kill(t, d)
	is(t, "Remove", s.Remove(7), api.ErrDead)
	knows(t, s, [2]int{3, 1}, [2]int{7, 3}, [2]int{77, 1})
	revive(t, d)
	costs(t, d, 0, "Remove", func() { is(t, "Remove", s.Remove(7), api.OK) })
	knows(t, s, [2]int{3, 1}, [2]int{77, 1})
}

// TestS4WriteWhereOthersRemoved: the next segment has the next number all the same.
func TestS4WriteWhereOthersRemoved(t *testing.T) {
	d, s := several(t, 3)
	is(t, "Remove of a file", d.Remove(named(7, 1)), api.OK)
	is(t, "Remove of a file", d.Remove(named(7, 2)), api.OK)
	writes(t, s, 7, api.OK, change(50, 7))
	lists(t, d, severalNames(0, 3)...)
	knows(t, s, [2]int{3, 1}, [2]int{7, 4}, [2]int{77, 1})
	reads(t, s, 7, 3, api.OK, change(50, 7))
	reads(t, s, 7, 2, api.ErrSpillNone)
}

// TestS4LeavesWhatIsNoSegment: a file that a Write left in which the disk died is none of the segments.
func TestS4LeavesWhatIsNoSegment(t *testing.T) {
	d, s := several(t, 2)
	is(t, "Arm", d.Arm(2), api.OK)
	writes(t, s, 7, api.ErrDead, change(90, 7))
	revive(t, d)
	costs(t, d, 2, "Remove", func() { is(t, "Remove", s.Remove(7), api.OK) })
	lists(t, d, severalNames(2)...)
	for k := range 3 {
		writes(t, s, 7, api.OK, change(91+k, 7))
		reads(t, s, 7, k, api.OK, change(91+k, 7))
	}
	lists(t, d, severalNames(0, 1, 2)...)
	is(t, "Remove", s.Remove(7), api.OK)
	lists(t, d, severalNames()...)
}
