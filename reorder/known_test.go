package reorder_test

import (
	"math"
	"testing"

	"confluence/api"
	"confluence/files"
	"confluence/reorder"
	"confluence/spill"
)

// TestExample1: the chapter's.
func TestExample1(t *testing.T) {
	x := begun(t, 100000, 100)
	x.begin(5, 10)
	x.add(bares(5, 11, 12, 13)...)
	x.counts(96, 3, 0, 1)
	x.add(bare(14, 5))
	x.counts(32, 1, 1, 1)
	x.lists("spill.a.5.0")
	x.segment(5, 0, bares(5, 11, 12, 13)...)
	s := x.commit(5)
	x.counts(64, 2, 1, 1)
	x.tells(s, bare(11, 5))
	x.counts(64, 2, 1, 1)
	x.tells(s, bare(12, 5))
	x.counts(64, 2, 1, 1)
	x.tells(s, bare(13, 5))
	x.counts(32, 1, 1, 1)
	x.tells(s, bare(14, 5))
	x.counts(0, 0, 1, 1)
	x.nothing(s, api.OK)
	x.counts(0, 0, 1, 0)
	x.clean()
}

// TestExample2: the chapter's.
func TestExample2(t *testing.T) {
	x := begun(t, 100000, 100)
	x.begin(1, 1)
	x.part(2, 1, 2)
	x.part(3, 2, 3)
	x.add(bare(4, 3))
	x.back(2)
	x.adds(bare(5, 3), api.ErrReorderXid)
	x.adds(bare(5, 2), api.ErrReorderXid)
	x.begins(1, 5, api.ErrReorderXid)
	x.whole(1)
	x.clean()
}

func TestU1(t *testing.T) {
	d, _ := files.New(1000)
	s, _ := spill.Open(d, "a")
	for _, limit := range []int{-1, -2, math.MinInt} {
		if b, e := reorder.New(limit, s); b != nil || e != api.ErrArg {
			t.Errorf("New(%d): %v, %d", limit, b, e)
		}
	}
	for _, limit := range []int{0, 1, 31, 32, never} {
		x := begun(t, 1000, limit)
		x.clean()
		x.counts(0, 0, 0, 0)
		x.begin(1, 1)
		x.add(bare(2, 1))
		x.whole(1, bare(2, 1))
		x.counts(0, 0, 0, 0)
	}
}

// TestU1DeadDisk: New asks the disk nothing.
func TestU1DeadDisk(t *testing.T) {
	d, _ := files.New(1000)
	s, _ := spill.Open(d, "a")
	d.Arm(1)
	d.Create("x")
	b, e := reorder.New(5, s)
	if b == nil || e != api.OK {
		t.Fatalf("New: %d", e)
	}
	if b.Begin(1, 1) != api.OK || b.Add(bare(2, 1)) != api.OK || b.Add(bare(3, 1)) != api.ErrDead {
		t.Error("a dead disk is asked for what is written alone")
	}
}

// TestU2: while a stream has not ended each call is refused, and nothing is changed, at its beginning, in its midst, and where all is told.
func TestU2(t *testing.T) {
	x := begun(t, 100000, 64)
	x.begin(5, 1)
	x.part(2, 5, 2)
	x.begin(3, 3)
	x.add(bare(4, 3))
	x.add(bares(5, 5, 6, 7)...)
	s := x.commit(5)
	x.closed()
	for _, c := range bares(5, 5, 6, 7) {
		x.tells(s, c)
		x.closed()
	}
	x.nothing(s, api.OK)
	// What was refused has taken no position.
	x.begin(5, 8)
	x.add(bare(9, 3))
	x.whole(3, bares(3, 4, 9)...)
	x.nothing(s, api.OK)
	x.whole(5)
	x.clean()
}

// TestU2Empty: a stream of no change has not ended till it has said so.
func TestU2Empty(t *testing.T) {
	x := begun(t, 1000, 64)
	x.begin(1, 1)
	s := x.commit(1)
	x.closed()
	x.counts(0, 0, 0, 1)
	x.oldest(1)
	x.nothing(s, api.OK)
	x.clean()
	x.begin(2, 2)
}

// TestU3Begin: which numbers and which positions.
func TestU3Begin(t *testing.T) {
	x := begun(t, 1000, 100)
	for _, xid := range []int{0, -1, math.MinInt, api.MaxXid + 1, math.MaxInt} {
		x.unchanged("Begin", func() {
			x.begins(xid, 1, api.ErrReorderXid)
			x.begins(xid, 0, api.ErrReorderXid)
			x.begins(xid, -5, api.ErrReorderXid)
		})
	}
	for _, lsn := range []int{0, -1, math.MinInt} {
		x.unchanged("Begin", func() { x.begins(1, lsn, api.ErrReorderOrder) })
	}
	x.begin(1, 1)
	x.unchanged("Begin", func() {
		x.begins(1, 2, api.ErrReorderXid)
		x.begins(1, 1, api.ErrReorderXid)
		x.begins(2, 1, api.ErrReorderOrder)
		x.begins(2, 0, api.ErrReorderOrder)
		x.begins(0, 0, api.ErrReorderXid)
	})
	x.begin(api.MaxXid, 2)
	x.begins(api.MaxXid, 3, api.ErrReorderXid)
	x.begin(api.MaxXid-1, 100)
	x.begins(7, 99, api.ErrReorderOrder)
	x.begins(7, 100, api.ErrReorderOrder)
	x.begin(7, 101)
	x.counts(0, 0, 0, 4)
	x.oldest(1)
}

// TestU3Part: which numbers, which parents, which positions.
func TestU3Part(t *testing.T) {
	x := begun(t, 1000, 100)
	x.parts(2, 1, 1, api.ErrReorderXid)
	x.begin(1, 10)
	x.unchanged("Part", func() {
		for _, xid := range []int{0, -1, math.MinInt, api.MaxXid + 1, math.MaxInt, 1} {
			x.parts(xid, 1, 11, api.ErrReorderXid)
			x.parts(xid, 1, 10, api.ErrReorderXid)
			x.parts(xid, 9, 11, api.ErrReorderXid)
		}
		for _, parent := range []int{0, -1, 2, 3, api.MaxXid, api.MaxXid + 1, math.MinInt} {
			x.parts(2, parent, 11, api.ErrReorderXid)
			x.parts(2, parent, 10, api.ErrReorderXid)
		}
		for _, lsn := range []int{10, 9, 0, -1, math.MinInt} {
			x.parts(2, 1, lsn, api.ErrReorderOrder)
		}
	})
	x.part(2, 1, 11)
	x.parts(2, 1, 12, api.ErrReorderXid)
	x.parts(3, 1, 11, api.ErrReorderOrder)
	x.part(3, 2, 12)
	x.part(api.MaxXid, 3, 13)
	x.parts(api.MaxXid, 1, 14, api.ErrReorderXid)
	x.parts(1, 2, 14, api.ErrReorderXid)
	for _, xid := range []int{1, 2, 3, api.MaxXid} {
		x.begins(xid, 14, api.ErrReorderXid)
	}
	x.counts(0, 0, 0, 1)
	x.oldest(10)
}

// TestU3Positions: what one of the three calls has taken the others must be above; what was refused takes none.
func TestU3Positions(t *testing.T) {
	calls := []struct {
		what string
		call func(x *bench, xid, lsn int) api.Errno
	}{
		{"Begin", func(x *bench, xid, lsn int) api.Errno { return x.b.Begin(xid, lsn) }},
		{"Part", func(x *bench, xid, lsn int) api.Errno { return x.b.Part(xid, 1, lsn) }},
		{"Add", func(x *bench, xid, lsn int) api.Errno { return x.b.Add(bare(lsn, 1)) }},
	}
	for _, first := range calls {
		for _, second := range calls {
			x := begun(t, 1000, 100)
			x.begin(1, 5)
			is(t, first.what, first.call(x, 2, 50), api.OK)
			for _, lsn := range []int{50, 49, 6, 5, 1, 0, -1, math.MinInt} {
				is(t, first.what+", then "+second.what, second.call(x, 3, lsn), api.ErrReorderOrder)
			}
			// Refused for its number or its form, at a position that others may still take.
			x.begins(1, 1000, api.ErrReorderXid)
			x.parts(3, 99, 1000, api.ErrReorderXid)
			x.adds(bare(1000, 99), api.ErrReorderXid)
			x.adds(api.Change{Lsn: 1000, Xid: 1}, api.ErrArg)
			is(t, first.what+", then "+second.what, second.call(x, 3, 51), api.OK)
			is(t, second.what+", then "+first.what, first.call(x, 4, 51), api.ErrReorderOrder)
			is(t, second.what+", then "+first.what, first.call(x, 4, 52), api.OK)
		}
	}
}

// TestU3PositionsOutlive: positions rise over all transactions, those that are over, too.
func TestU3PositionsOutlive(t *testing.T) {
	x := begun(t, 1000, 100)
	x.begin(1, 5)
	x.add(bare(9, 1))
	x.whole(1, bare(9, 1))
	x.begins(1, 9, api.ErrReorderOrder)
	x.begins(1, 6, api.ErrReorderOrder)
	x.begin(1, 10)
	x.part(2, 1, 20)
	x.back(2)
	x.abort(1)
	x.begins(2, 20, api.ErrReorderOrder)
	x.begin(2, 21)
	x.oldest(21)
}

// TestU3LastPosition: the greatest number is a position, above which there is none.
func TestU3LastPosition(t *testing.T) {
	x := begun(t, 1000, 100)
	x.begin(1, 1)
	x.begin(3, math.MaxInt-1)
	x.add(bare(math.MaxInt, 1))
	x.begins(2, math.MaxInt, api.ErrReorderOrder)
	x.begins(2, math.MinInt, api.ErrReorderOrder)
	x.adds(bare(math.MaxInt, 1), api.ErrReorderOrder)
	x.parts(2, 1, math.MaxInt, api.ErrReorderOrder)
	x.whole(1, bare(math.MaxInt, 1))
	x.oldest(math.MaxInt - 1)
	x.abort(3)
	x.clean()
}

// TestU3Again: numbers come again when their transaction is over, be it aborted or told, those of its parts, too, taken back or not.
func TestU3Again(t *testing.T) {
	for _, aborted := range []bool{true, false} {
		x := begun(t, 100000, 64)
		lsn := 0
		next := func() int { lsn++; return lsn }
		for round := range 4 {
			// What is a transaction's number in one round is a part's in the next one.
			one, two, three, four := 1+round%4, 1+(round+1)%4, 1+(round+2)%4, 1+(round+3)%4
			x.begin(one, next())
			x.part(two, one, next())
			x.part(three, two, next())
			x.part(four, one, next())
			var want []api.Change
			for _, xid := range []int{one, two, three, four, one} {
				c := full(next(), xid)
				x.add(c)
				if xid == one || xid == four {
					want = append(want, c)
				}
			}
			x.back(two)
			for _, xid := range []int{one, two, three, four} {
				x.begins(xid, lsn+1, api.ErrReorderXid)
				x.parts(xid, one, lsn+1, api.ErrReorderXid)
			}
			if aborted {
				x.abort(one)
			} else {
				x.whole(one, want...)
			}
			x.clean()
			for _, xid := range []int{one, two, three, four} {
				x.backs(xid, api.ErrReorderXid)
				x.aborts(xid, api.ErrReorderXid)
				x.commitsNot(xid, api.ErrReorderXid)
				x.adds(bare(lsn+1, xid), api.ErrReorderXid)
				x.parts(9, xid, lsn+1, api.ErrReorderXid)
			}
		}
	}
}

// TestU3AgainNothingOld: a number that comes again has nothing of what it was.
func TestU3AgainNothingOld(t *testing.T) {
	x := begun(t, 100000, 64)
	x.begin(1, 1)
	x.part(2, 1, 2)
	x.add(bares(2, 3, 4, 5)...)
	x.back(2)
	x.abort(1)
	x.begin(2, 6)
	x.part(1, 2, 7)
	x.add(bare(8, 1), bare(9, 2), bare(10, 1))
	x.lists("spill.a.2.0")
	x.whole(2, bare(8, 1), bare(9, 2), bare(10, 1))
	x.begin(1, 11)
	x.add(bare(12, 1))
	x.whole(1, bare(12, 1))
	x.clean()
}

// TestU3OthersNumbers: numbers are one world: what one transaction uses no other one may, and a part of one is no parent in another's name.
func TestU3OthersNumbers(t *testing.T) {
	x := begun(t, 100000, 1000)
	x.begin(1, 1)
	x.begin(10, 2)
	x.part(2, 1, 3)
	x.part(11, 10, 4)
	x.parts(2, 10, 5, api.ErrReorderXid)
	x.parts(11, 1, 5, api.ErrReorderXid)
	x.parts(10, 1, 5, api.ErrReorderXid)
	x.part(3, 11, 5)
	x.add(bare(6, 3), bare(7, 2))
	x.back(2)
	x.parts(2, 10, 8, api.ErrReorderXid)
	x.begins(2, 8, api.ErrReorderXid)
	x.abort(1)
	x.part(2, 10, 8)
	x.add(bare(9, 2))
	x.whole(10, bare(6, 3), bare(9, 2))
	x.clean()
}
