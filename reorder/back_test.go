package reorder_test

import (
	"math"
	"testing"

	"confluence/api"
)

func TestU5BackWrong(t *testing.T) {
	x := begun(t, 1000, 100)
	x.backs(1, api.ErrReorderXid)
	x.begin(1, 1)
	x.part(2, 1, 2)
	x.add(bare(3, 2))
	x.unchanged("Back", func() {
		for _, xid := range []int{0, -1, 1, 3, api.MaxXid, api.MaxXid + 1, math.MinInt, math.MaxInt} {
			x.backs(xid, api.ErrReorderXid)
		}
	})
	x.back(2)
	x.unchanged("Back again", func() { x.backs(2, api.ErrReorderXid) })
	x.whole(1)
	x.backs(2, api.ErrReorderXid)
}

// TestU5BackWithin: a part is gone with all within it, and nothing else is; its changes are at hand no more.
func TestU5BackWithin(t *testing.T) {
	//      1
	//    2     6
	//  3   5   7
	//  4
	under := map[int][]int{2: {2, 3, 4, 5}, 3: {3, 4}, 4: {4}, 5: {5}, 6: {6, 7}, 7: {7}}
	for gone, within := range under {
		for _, limit := range []int{0, 100, never} {
			x := begun(t, 100000, limit)
			x.begin(1, 1)
			for i, parent := range []int{1, 2, 3, 2, 1, 6} {
				x.part(i+2, parent, i+2)
			}
			isGone := map[int]bool{}
			for _, xid := range within {
				isGone[xid] = true
			}
			var want []api.Change
			lsn := 10
			for range 3 {
				for xid := 1; xid <= 7; xid++ {
					c := full(lsn, xid)
					x.add(c)
					if !isGone[xid] {
						want = append(want, c)
					}
					lsn++
				}
			}
			x.back(gone)
			if limit == never {
				bytes := 0
				for _, c := range want {
					bytes += sizeOf(c)
				}
				x.counts(bytes, len(want), 0, 1)
			}
			for xid := 2; xid <= 7; xid++ {
				if isGone[xid] {
					x.backs(xid, api.ErrReorderXid)
					x.adds(bare(lsn, xid), api.ErrReorderXid)
					x.parts(20, xid, lsn, api.ErrReorderXid)
					x.parts(xid, 1, lsn, api.ErrReorderXid)
					x.begins(xid, lsn, api.ErrReorderXid)
					continue
				}
				c := full(lsn, xid)
				x.add(c)
				want = append(want, c)
				lsn++
			}
			x.whole(1, want...)
			x.clean()
		}
	}
}

// TestU5BackFirstInner: parts that were taken back one by one, from within, and then what is around them.
func TestU5BackFirstInner(t *testing.T) {
	x := begun(t, 10000, 1000)
	x.begin(1, 1)
	x.add(bare(2, 1))
	for xid := 2; xid <= 6; xid++ {
		x.part(xid, xid-1, 10*xid)
		x.add(bare(10*xid+1, xid))
	}
	x.counts(6*32, 6, 0, 1)
	for xid := 6; xid >= 2; xid-- {
		x.back(xid)
		x.counts((xid-1)*32, xid-1, 0, 1)
	}
	x.whole(1, bare(2, 1))
	x.clean()
}

// TestU5BackGoesOn: behind a part that was taken back others come, with other numbers.
func TestU5BackGoesOn(t *testing.T) {
	for _, limit := range []int{0, 64, never} {
		x := begun(t, 100000, limit)
		x.begin(1, 1)
		var want []api.Change
		lsn := 2
		for xid := 2; xid < 30; xid++ {
			x.part(xid, 1, lsn)
			c, d := full(lsn+1, xid), full(lsn+2, 1)
			x.add(c, d)
			lsn += 3
			if xid%3 == 0 {
				x.back(xid)
				want = append(want, d)
			} else {
				want = append(want, c, d)
			}
		}
		x.whole(1, want...)
		x.clean()
	}
}

// TestU5BackInFiles: what stands in files is passed over: at a segment's beginning, in its midst, at its end, and a whole segment; the files stay as they are till the end.
func TestU5BackInFiles(t *testing.T) {
	x := begun(t, 100000, 128)
	x.begin(1, 1)
	x.part(2, 1, 2)
	x.add(bare(10, 2), bare(11, 1), bare(12, 2), bare(13, 1))
	x.add(bare(20, 2), bare(21, 2), bare(22, 2), bare(23, 2))
	x.add(bare(30, 1), bare(31, 2), bare(32, 2), bare(33, 1))
	x.add(bare(40, 2), bare(41, 1))
	x.counts(64, 2, 3, 1)
	x.back(2)
	x.counts(32, 1, 3, 1)
	x.segment(1, 0, bare(10, 2), bare(11, 1), bare(12, 2), bare(13, 1))
	x.segment(1, 1, bares(2, 20, 21, 22, 23)...)
	s := x.commit(1)
	// Held are 11 and 30; of the second segment nothing is.
	x.counts(96, 3, 3, 1)
	x.tells(s, bare(11, 1))
	x.counts(96, 3, 3, 1)
	x.tells(s, bare(13, 1))
	x.counts(64, 2, 3, 1)
	x.tells(s, bare(30, 1))
	x.counts(64, 2, 3, 1)
	x.tells(s, bare(33, 1))
	x.counts(32, 1, 3, 1)
	x.tells(s, bare(41, 1))
	x.counts(0, 0, 3, 1)
	x.lists("spill.a.1.0", "spill.a.1.1", "spill.a.1.2")
	x.nothing(s, api.OK)
	x.counts(0, 0, 3, 0)
	x.clean()
}

// TestU5BackAllInFiles: where all was taken back, nothing is held and nothing told; the files are removed all the same.
func TestU5BackAllInFiles(t *testing.T) {
	x := begun(t, 100000, 0)
	x.begin(1, 1)
	x.part(2, 1, 2)
	x.add(bares(2, 3, 4, 5, 6)...)
	x.counts(32, 1, 3, 1)
	x.back(2)
	x.counts(0, 0, 3, 1)
	s := x.commit(1)
	x.counts(0, 0, 3, 1)
	x.nothing(s, api.OK)
	x.clean()
}

// TestU5BackMakesRoom: what was taken back counts no more when room is made, for the transaction as for all.
func TestU5BackMakesRoom(t *testing.T) {
	x := begun(t, 100000, 96)
	x.begin(1, 1)
	x.part(2, 1, 2)
	x.begin(3, 3)
	x.add(bare(4, 2), bare(5, 2), bare(6, 3))
	x.back(2)
	x.add(bare(7, 3), bare(8, 1))
	x.counts(96, 3, 0, 2)
	// 3 has the most, now: 1 has 32 left, of what was 64.
	x.add(bare(9, 1))
	x.lists("spill.a.3.0")
	x.counts(64, 2, 1, 2)
	x.whole(1, bare(8, 1), bare(9, 1))
	x.whole(3, bare(6, 3), bare(7, 3))
	x.clean()
}

// TestU5BackDeadDisk: Back asks the disk nothing.
func TestU5BackDeadDisk(t *testing.T) {
	x := begun(t, 100000, 0)
	x.begin(1, 1)
	x.part(2, 1, 2)
	x.add(bare(3, 2), bare(4, 2))
	x.kill()
	x.back(2)
	x.counts(0, 0, 1, 1)
	x.revive()
	x.whole(1)
	x.clean()
}

// TestU5BackDeep: as many parts within one another as there may be, taken back from the innermost to the outermost, or all at once.
func TestU5BackDeep(t *testing.T) {
	const deep = 1 << 16
	for _, once := range []bool{true, false} {
		x := begun(t, 100000, never)
		x.begin(1, 1)
		for xid := 2; xid <= deep; xid++ {
			if e := x.b.Part(xid, xid-1, 2*xid); e != api.OK {
				t.Fatalf("Part(%d): %d", xid, e)
			}
			x.b.Add(bare(2*xid+1, xid))
		}
		x.counts(32*(deep-1), deep-1, 0, 1)
		if once {
			x.back(2)
		}
		for xid := deep; xid >= 2 && !once; xid-- {
			if e := x.b.Back(xid); e != api.OK {
				t.Fatalf("Back(%d): %d", xid, e)
			}
		}
		x.counts(0, 0, 0, 1)
		x.whole(1)
		x.clean()
		x.begin(deep, 10*deep)
		x.part(2, deep, 10*deep+1)
	}
}

func TestU5Abort(t *testing.T) {
	x := begun(t, 100000, 96)
	x.aborts(1, api.ErrReorderXid)
	x.begin(1, 1)
	x.part(2, 1, 2)
	x.part(3, 2, 3)
	x.begin(4, 4)
	x.add(bare(5, 1), bare(6, 3), bare(7, 2), bare(8, 4), bare(9, 3))
	x.counts(64, 2, 1, 2)
	x.unchanged("Abort", func() {
		for _, xid := range []int{0, -1, 2, 3, 5, api.MaxXid, api.MaxXid + 1, math.MinInt} {
			x.aborts(xid, api.ErrReorderXid)
		}
	})
	x.lists("spill.a.1.0")
	x.abort(1)
	x.lists()
	x.counts(32, 1, 1, 1)
	x.oldest(4)
	x.aborts(1, api.ErrReorderXid)
	x.whole(4, bare(8, 4))
	x.clean()
}

// TestU5AbortKinds: one without changes, with some at hand alone, in files alone, with parts that were taken back.
func TestU5AbortKinds(t *testing.T) {
	x := begun(t, 100000, 64)
	x.begin(1, 1)
	x.abort(1)
	x.clean()

	x.begin(1, 2)
	x.add(bare(3, 1))
	x.abort(1)
	x.clean()

	x.begin(1, 4)
	x.part(2, 1, 5)
	x.add(bares(1, 6, 7)...)
	x.add(bare(8, 2))
	x.back(2)
	x.counts(0, 0, 1, 1)
	x.abort(1)
	x.clean()
	x.begin(2, 9)
	x.begin(1, 10)
	x.abort(2)
	x.abort(1)
	x.clean()
}

// TestU5AbortMakesRoom: what was aborted counts no more.
func TestU5AbortMakesRoom(t *testing.T) {
	x := begun(t, 100000, 96)
	x.begin(1, 1)
	x.begin(2, 2)
	x.add(bare(3, 1), bare(4, 1), bare(5, 2))
	x.abort(1)
	x.counts(32, 1, 0, 1)
	x.add(bare(6, 2), bare(7, 2))
	x.counts(96, 3, 0, 1)
	x.lists()
	x.whole(2, bares(2, 5, 6, 7)...)
	x.clean()
}
