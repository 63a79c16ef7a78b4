package reorder_test

import (
	"fmt"
	"testing"

	"confluence/api"
)

// three is a buffer with three transactions, of 64, 96 and 32 bytes at hand, and a segment of the second, with six changes; its limit is reached.
func three(t *testing.T, capacity int) *bench {
	t.Helper()
	x := begun(t, capacity, 192)
	for xid := 1; xid <= 3; xid++ {
		x.begin(xid, xid)
	}
	x.add(bares(2, 10, 11, 12, 13, 14, 15)...)
	x.add(bare(16, 1), bare(17, 2), bare(18, 1), bare(19, 3), bare(20, 2), bare(21, 2))
	x.counts(192, 6, 1, 3)
	return x
}

// great is a change for which all else must go from what three has.
func great(lsn int) api.Change { return sized(lsn, 3, 192) }

// TestU4Dies: the disk dies in each act of an Add that writes three segments: those ahead of it stay written, the rest is at hand; the change is not taken, and its position is free.
func TestU4Dies(t *testing.T) {
	x := three(t, 100000)
	x.costs(6, "Add", func() { x.add(great(22)) })
	for act := 1; act <= 6; act++ {
		x := three(t, 100000)
		is(t, "Arm", x.d.Arm(act), api.OK)
		x.adds(great(22), api.ErrDead)
		wrote := (act - 1) / 2
		after := []api.Counts{{Bytes: 192, Changes: 6, Spilled: 1, Open: 3}, {Bytes: 96, Changes: 3, Spilled: 2, Open: 3}, {Bytes: 32, Changes: 1, Spilled: 3, Open: 3}}[wrote]
		x.counts(after.Bytes, after.Changes, after.Spilled, after.Open)
		if n := []int{x.s.Segments(2) - 1, x.s.Segments(1), x.s.Segments(3)}; n[0]+n[1]+n[2] != wrote {
			t.Errorf("act %d: segments %v", act, n)
		}
		x.adds(great(22), api.ErrDead)
		x.counts(after.Bytes, after.Changes, after.Spilled, after.Open)
		x.revive()
		if act%2 == 0 {
			// The file of the segment that was not written lies there, empty.
			if n := len(x.d.List()); n != 1+wrote+1 {
				t.Errorf("act %d: %q", act, x.d.List())
			}
		}
		x.add(great(22))
		x.counts(192, 1, 4, 3)
		x.whole(1, bare(16, 1), bare(18, 1))
		x.whole(2, bares(2, 10, 11, 12, 13, 14, 15, 17, 20, 21)...)
		x.whole(3, bare(19, 3), great(22))
		x.clean()
	}
}

// TestU4DeadNoNeed: what needs no room asks no disk.
func TestU4DeadNoNeed(t *testing.T) {
	x := begun(t, 1000, 64)
	x.begin(1, 1)
	x.kill()
	x.add(bare(2, 1), bare(3, 1))
	x.adds(bare(4, 1), api.ErrDead)
	x.counts(64, 2, 0, 1)
	x.begin(2, 4)
	x.part(3, 1, 5)
	x.whole(1, bare(2, 1), bare(3, 1))
	x.add(bare(6, 2))
	x.abort(2)
	x.clean()
}

// TestU4ErrorsAheadOfDisk: what is wrong with a change is told ahead of what is wrong with the disk.
func TestU4ErrorsAheadOfDisk(t *testing.T) {
	x := three(t, 100000)
	x.kill()
	x.adds(bare(22, 9), api.ErrReorderXid)
	x.adds(bare(21, 1), api.ErrReorderOrder)
	x.adds(api.Change{Lsn: 22, Xid: 1}, api.ErrArg)
	x.adds(bare(22, 1), api.ErrDead)
	x.aborts(9, api.ErrReorderXid)
	x.commitsNot(9, api.ErrReorderXid)
}

// TestU4Full: no room for a segment, be it the first one that must be written or a later one; what was written ahead of it stays.
func TestU4Full(t *testing.T) {
	one := len(written(t, bare(10, 1)))
	for capacity := 6 * one; capacity < 12*one; capacity++ {
		x := three(t, capacity)
		wrote, counts := 0, api.Counts{Bytes: 192, Changes: 6, Spilled: 1, Open: 3}
		if capacity >= 9*one {
			wrote, counts = 1, api.Counts{Bytes: 96, Changes: 3, Spilled: 2, Open: 3}
		}
		if capacity >= 11*one {
			wrote, counts = 2, api.Counts{Bytes: 32, Changes: 1, Spilled: 3, Open: 3}
		}
		for range 2 {
			x.adds(great(22), api.ErrFileFull)
			x.counts(counts.Bytes, counts.Changes, counts.Spilled, counts.Open)
			if n := x.s.Segments(2) - 1 + x.s.Segments(1) + x.s.Segments(3); n != wrote {
				t.Errorf("capacity %d: %d were written", capacity, n)
			}
		}
		// What is small enough is taken, and each is told whole.
		x.abort(3)
		x.add(bare(22, 1))
		x.whole(1, bares(1, 16, 18, 22)...)
		x.whole(2, bares(2, 10, 11, 12, 13, 14, 15, 17, 20, 21)...)
		x.clean()
	}
}

// TestU4FullThenRoom: room that is there again is used.
func TestU4FullThenRoom(t *testing.T) {
	one := len(written(t, bare(10, 1)))
	x := begun(t, 2*one, 64)
	x.begin(1, 1)
	x.begin(2, 2)
	x.add(bare(3, 1), bare(4, 1), bare(5, 2), bare(6, 2))
	x.counts(64, 2, 1, 2)
	x.adds(bare(7, 2), api.ErrFileFull)
	x.adds(bare(7, 1), api.ErrFileFull)
	x.abort(1)
	x.add(bare(7, 2))
	x.counts(32, 1, 2, 1)
	x.segment(2, 0, bares(2, 5, 6)...)
	x.whole(2, bares(2, 5, 6, 7)...)
	x.clean()
}

// TestU5AbortDies: the disk dies in each act of an Abort: it is open still, with what it has at hand and those segments that were not removed; nothing else is changed.
func TestU5AbortDies(t *testing.T) {
	x, _ := spilled(t)
	x.costs(3, "Abort", func() { x.abort(1) })
	for act := 1; act <= 3; act++ {
		for _, commit := range []bool{true, false} {
			x, l := spilled(t)
			x.part(3, 1, 21)
			x.part(4, 3, 22)
			x.back(4)
			is(t, "Arm", x.d.Arm(act), api.OK)
			x.aborts(1, api.ErrDead)
			for range 2 {
				x.counts(64, 2, 3, 2)
				x.oldest(1)
				if n := x.s.Segments(1); n != 4-act {
					t.Errorf("act %d: %d segments", act, n)
				}
				x.begins(1, 23, api.ErrReorderXid)
				x.begins(4, 23, api.ErrReorderXid)
				x.aborts(1, api.ErrDead)
			}
			x.commitsNot(1, api.ErrDead)
			x.revive()
			if !commit {
				x.abort(1)
			} else {
				x.add(bare(23, 3))
				x.whole(1, append(append([]api.Change{}, l[:3*(4-act)]...), bare(19, 1), bare(20, 1), bare(23, 3))...)
			}
			x.begin(1, 24)
			x.begin(4, 25)
			for _, xid := range []int{1, 2, 4} {
				x.abort(xid)
			}
			x.clean()
		}
	}
}

// TestU5AbortDead: on a dead disk one is aborted just if it has no files.
func TestU5AbortDead(t *testing.T) {
	x, _ := spilled(t)
	x.add(bare(21, 2))
	x.kill()
	x.abort(2)
	x.counts(64, 2, 3, 1)
	x.aborts(1, api.ErrDead)
	x.counts(64, 2, 3, 1)
	x.revive()
	x.abort(1)
	x.clean()
}

// TestU5AbortGone: files that others have removed are none to stop at.
func TestU5AbortGone(t *testing.T) {
	for gone := range 1 << 3 {
		x, _ := spilled(t)
		for k := range 3 {
			if gone>>k&1 == 1 {
				is(t, "Remove", x.d.Remove(fmt.Sprintf("spill.a.1.%d", k)), api.OK)
			}
		}
		x.abort(1)
		x.abort(2)
		x.clean()
	}
}

// TestU6Dead: a dead disk lets none be told that has files, and changes nothing; one without files is told.
func TestU6Dead(t *testing.T) {
	x, l := spilled(t)
	x.add(bare(21, 2))
	x.counts(96, 3, 3, 2)
	x.kill()
	x.commitsNot(1, api.ErrDead)
	x.counts(96, 3, 3, 2)
	x.whole(2, bare(21, 2))
	x.counts(64, 2, 3, 1)
	x.commitsNot(1, api.ErrDead)
	x.revive()
	x.costs(0, "Commit", func() {
		s := x.commit(1)
		x.tells(s, l...)
	})
	x.counts(0, 0, 3, 1)
	x.closed()
}

// TestU7EndDies: the disk dies in each act of the last Next: it may be asked again, till the files are gone; meanwhile the stream has not ended.
func TestU7EndDies(t *testing.T) {
	x, l := spilled(t)
	s := x.commit(1)
	x.costs(0, "Next", func() { x.tells(s, l...) })
	x.costs(3, "Next", func() { x.nothing(s, api.OK) })
	for act := 1; act <= 3; act++ {
		x, l := spilled(t)
		x.add(bare(21, 2))
		s := x.commit(1)
		x.tells(s, l...)
		is(t, "Arm", x.d.Arm(act), api.OK)
		x.nothing(s, api.ErrDead)
		x.counts(32, 1, 3, 2)
		x.oldest(1)
		if n := x.s.Segments(1); n != 4-act || len(x.d.List()) != n {
			t.Errorf("act %d: %d segments, %q", act, n, x.d.List())
		}
		x.closed()
		x.nothing(s, api.ErrDead)
		x.revive()
		x.closed()
		// It dies once more, where there is something left to be removed.
		is(t, "Arm", x.d.Arm(1), api.OK)
		x.nothing(s, api.ErrDead)
		x.closed()
		x.revive()
		x.nothing(s, api.OK)
		x.counts(32, 1, 3, 1)
		x.whole(2, bare(21, 2))
		x.clean()
	}
}

// TestU7EndGone: files that others have removed do not keep a stream from ending.
func TestU7EndGone(t *testing.T) {
	x, l := spilled(t)
	s := x.commit(1)
	x.tells(s, l...)
	is(t, "Remove", x.d.Remove("spill.a.1.1"), api.OK)
	x.nothing(s, api.OK)
	x.abort(2)
	x.clean()
}

// TestSyncsNothing: nothing of it must last: a disk on which each Sync fails does not disturb.
func TestSyncsNothing(t *testing.T) {
	x := begun(t, 100000, 0)
	is(t, "FailSync", x.d.FailSync(1), api.OK)
	x.begin(1, 1)
	x.add(bares(1, 2, 3, 4)...)
	x.whole(1, bares(1, 2, 3, 4)...)
	x.clean()
	is(t, "Create", x.d.Create("probe"), api.OK)
	is(t, "Sync", x.d.Sync("probe"), api.ErrFileSync)
}

// TestCrashBetween: a crash in which the files lose their bytes: segments that are shorter than they were.
func TestCrashBetween(t *testing.T) {
	x, _ := spilled(t)
	is(t, "Crash", x.d.Crash(nil), api.OK)
	x.counts(64, 2, 3, 2)
	// Empty files: what stood there is lost, and nobody can tell.
	x.whole(1, bare(19, 1), bare(20, 1))
	x.abort(2)
	x.clean()
}
