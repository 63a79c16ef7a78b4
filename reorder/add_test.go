package reorder_test

import (
	"fmt"
	"math"
	"strings"
	"testing"

	"confluence/api"
	"confluence/reorder"
)

// TestU4Wrong: what is refused, by which error, and that it changes nothing.
func TestU4Wrong(t *testing.T) {
	long := row(text(strings.Repeat("x", api.MaxText+1)))
	for _, limit := range []int{0, 64, never} {
		x := begun(t, 10000, limit)
		x.adds(bare(1, 1), api.ErrReorderXid)
		x.begin(1, 10)
		x.part(2, 1, 11)
		x.part(3, 1, 12)
		x.back(3)
		x.add(bare(13, 1), bare(14, 2))
		x.unchanged("Add", func() {
			for _, xid := range []int{0, -1, 3, 4, api.MaxXid, api.MaxXid + 1, math.MinInt, math.MaxInt} {
				x.adds(bare(15, xid), api.ErrReorderXid)
				x.adds(bare(14, xid), api.ErrReorderXid)
				x.adds(api.Change{Lsn: 0, Xid: xid, Kind: -1, Old: long}, api.ErrReorderXid)
			}
			for _, lsn := range []int{14, 13, 10, 1, 0, -1, math.MinInt} {
				x.adds(bare(lsn, 1), api.ErrReorderOrder)
				x.adds(bare(lsn, 2), api.ErrReorderOrder)
				x.adds(api.Change{Lsn: lsn, Xid: 1, Kind: -1, Old: long}, api.ErrReorderOrder)
			}
			for kind := -3; kind < 30; kind++ {
				if kind != api.RecInsert && kind != api.RecUpdate && kind != api.RecDelete {
					x.adds(api.Change{Lsn: 15, Xid: 1, Kind: kind, Table: 1}, api.ErrArg)
				}
			}
			for _, kind := range []int{math.MinInt, math.MaxInt, api.RecInsert + 256, api.RecInsert + 1<<32} {
				x.adds(api.Change{Lsn: 15, Xid: 1, Kind: kind, Table: 1}, api.ErrArg)
			}
			for _, table := range []int{0, -1, math.MinInt} {
				x.adds(api.Change{Lsn: 15, Xid: 1, Kind: api.RecInsert, Table: table}, api.ErrArg)
			}
			for _, r := range []api.Row{long, make(api.Row, api.MaxColumns+1), row(number(1), api.Value{Kind: api.Bool, N: 2}), row(api.Value{Kind: 9}), row(api.Value{Kind: -1}), row(api.Value{Kind: api.Null, N: 1})} {
				x.adds(api.Change{Lsn: 15, Xid: 1, Kind: api.RecInsert, Table: 1, Old: r}, api.ErrArg)
				x.adds(api.Change{Lsn: 15, Xid: 1, Kind: api.RecInsert, Table: 1, New: r}, api.ErrArg)
				x.adds(api.Change{Lsn: 15, Xid: 1, Kind: api.RecInsert, Table: 1, Old: r, New: r}, api.ErrArg)
			}
		})
		x.add(bare(15, 1))
		x.whole(1, bare(13, 1), bare(14, 2), bare(15, 1))
		x.clean()
	}
}

// TestU4Right: all that may be, told as it was added, out of memory and out of files.
func TestU4Right(t *testing.T) {
	wide := make(api.Row, api.MaxColumns)
	for i := range wide {
		wide[i] = text(strings.Repeat(string(rune('a'+i)), api.MaxText))
	}
	rows := []api.Row{nil, {}, row(api.Value{}), row(number(math.MinInt), number(math.MaxInt)), row(text("")), row(text("\x00\xff'\\")), row(truth(0), truth(1)), wide, make(api.Row, api.MaxColumns)}
	for _, limit := range []int{0, 5000, never} {
		x := begun(t, 1000000, limit)
		x.begin(api.MaxXid, 1)
		var want []api.Change
		lsn := 1
		for _, from := range rows {
			for _, to := range rows {
				for _, kind := range []int{api.RecInsert, api.RecUpdate, api.RecDelete} {
					for _, table := range []int{1, 2, math.MaxInt} {
						lsn++
						c := api.Change{Lsn: lsn, Xid: api.MaxXid, Kind: kind, Table: table, Old: from, New: to}
						x.add(c)
						want = append(want, c)
					}
				}
			}
		}
		x.whole(api.MaxXid, want...)
		x.clean()
	}
}

// TestU4Limit: what is at hand may be just the limit, and not a byte more.
func TestU4Limit(t *testing.T) {
	for _, limit := range []int{100, 101, 99} {
		x := begun(t, 100000, limit)
		x.begin(1, 1)
		x.add(sized(2, 1, 60))
		x.add(sized(3, 1, 40))
		if limit >= 100 {
			x.counts(100, 2, 0, 1)
			x.lists()
		} else {
			x.counts(40, 1, 1, 1)
			x.segment(1, 0, sized(2, 1, 60))
		}
		x.whole(1, sized(2, 1, 60), sized(3, 1, 40))
		x.clean()
	}
}

// TestU4LimitNone: with a limit of 0 each change is written when the next one comes.
func TestU4LimitNone(t *testing.T) {
	for _, limit := range []int{0, 1, 31, 32, 63} {
		x := begun(t, 100000, limit)
		x.begin(1, 1)
		x.begin(2, 2)
		var one, two []api.Change
		for i := range 10 {
			c := bare(10+i, 1+i%2)
			x.add(c)
			x.counts(32, 1, i, 2)
			if i%2 == 0 {
				one = append(one, c)
			} else {
				two = append(two, c)
			}
		}
		for k, c := range one {
			x.segment(1, k, c)
		}
		for k, c := range two[:4] {
			x.segment(2, k, c)
		}
		x.whole(1, one...)
		x.whole(2, two...)
		x.counts(0, 0, 9, 0)
		x.clean()
	}
}

// TestU4LimitNever: nothing is ever written, and the disk is asked nothing.
func TestU4LimitNever(t *testing.T) {
	x := begun(t, 1, never)
	x.begin(1, 1)
	x.part(2, 1, 2)
	x.kill()
	var want []api.Change
	sum := 0
	for i := range 1000 {
		c := full(10+i, 1+i%2)
		x.add(c)
		want = append(want, c)
		sum += sizeOf(c)
		x.counts(sum, i+1, 0, 1)
	}
	x.whole(1, want...)
	x.counts(0, 0, 0, 0)
	x.clean()
}

// TestU4GreatOne: a change that alone is greater than the limit is at hand alone.
func TestU4GreatOne(t *testing.T) {
	x := begun(t, 100000, 100)
	great := func(lsn, xid int) api.Change {
		return api.Change{Lsn: lsn, Xid: xid, Kind: api.RecUpdate, Table: 1, Old: row(text(strings.Repeat("x", 200))), New: row(number(lsn))}
	}
	size := sizeOf(great(1, 1))
	x.begin(1, 1)
	x.begin(2, 2)
	x.add(great(3, 1))
	x.counts(size, 1, 0, 2)
	x.add(great(4, 2))
	x.counts(size, 1, 1, 2)
	x.segment(1, 0, great(3, 1))
	x.add(bare(5, 1), bare(6, 1), bare(7, 2))
	x.counts(96, 3, 2, 2)
	x.segment(2, 0, great(4, 2))
	// All goes that is at hand, transaction by transaction, and still there is not room enough.
	x.add(great(8, 1))
	x.counts(size, 1, 4, 2)
	x.segment(1, 1, bares(1, 5, 6)...)
	x.segment(2, 1, bare(7, 2))
	x.whole(1, great(3, 1), bare(5, 1), bare(6, 1), great(8, 1))
	x.whole(2, great(4, 2), bare(7, 2))
	x.clean()
}

// TestU4Most: the transaction with the most bytes goes, not the one with the most changes, nor the oldest, nor the one that adds.
func TestU4Most(t *testing.T) {
	for great := 1; great <= 3; great++ {
		for adds := 1; adds <= 3; adds++ {
			x := begun(t, 100000, 300)
			for xid := 1; xid <= 3; xid++ {
				x.begin(xid, xid)
			}
			lsn := 10
			want := map[int][]api.Change{}
			add := func(c api.Change) {
				x.add(c)
				want[c.Xid] = append(want[c.Xid], c)
				lsn++
			}
			for xid := 1; xid <= 3; xid++ {
				if xid == great {
					add(sized(lsn, xid, 97))
				} else {
					add(bare(lsn, xid))
					add(bare(lsn, xid))
					add(bare(lsn, xid))
				}
			}
			x.counts(96*2+97, 7, 0, 3)
			add(bare(lsn, adds))
			x.lists(fmt.Sprintf("spill.a.%d.0", great))
			x.segment(great, 0, want[great][0])
			x.counts(96*2+32, 7, 1, 3)
			for xid := 1; xid <= 3; xid++ {
				x.whole(xid, want[xid]...)
			}
			x.clean()
		}
	}
}

// TestU4MostLeastNumber: of several with the most the one with the least number goes, whatever their order of beginning.
func TestU4MostLeastNumber(t *testing.T) {
	for _, order := range [][]int{{5, 6, 7, 8}, {8, 7, 6, 5}, {6, 8, 5, 7}, {7, 5, 8, 6}} {
		x := begun(t, 100000, 256)
		for i, xid := range order {
			x.begin(xid, i+1)
		}
		for i, xid := range order {
			x.add(bare(10+2*i, xid), bare(11+2*i, xid))
		}
		x.counts(256, 8, 0, 4)
		// A number that is least of all, but has less.
		x.begin(1, 20)
		x.add(bare(21, 1))
		x.lists("spill.a.5.0")
		x.add(bare(22, 1))
		x.counts(256, 8, 1, 5)
		// 1 has as much as 6, 7 and 8 have.
		x.add(bare(23, 8))
		x.lists("spill.a.1.0", "spill.a.5.0")
		x.add(bare(24, 6))
		// 8 and 6 have 96 each, of 256.
		x.add(bare(25, 1))
		x.lists("spill.a.1.0", "spill.a.5.0", "spill.a.6.0")
		for _, xid := range []int{5, 6, 7, 8, 1} {
			x.abort(xid)
		}
		x.clean()
	}
}

// TestU4MostWithParts: a transaction's bytes are its parts', too, however deep; a part is never written alone.
func TestU4MostWithParts(t *testing.T) {
	x := begun(t, 100000, 200)
	x.begin(1, 1)
	x.begin(9, 2)
	x.part(2, 9, 3)
	x.part(3, 2, 4)
	x.add(bare(5, 1), bare(6, 1))
	x.add(bare(7, 3), bare(8, 9), bare(9, 2))
	x.add(bare(10, 1))
	x.counts(192, 6, 0, 2)
	// Both have 96: the one with the least number goes.
	x.add(bare(11, 3))
	x.lists("spill.a.1.0")
	x.add(bare(12, 1), bare(13, 9))
	// 9 has 160 of 192, in three parts.
	x.add(bare(14, 2))
	x.lists("spill.a.1.0", "spill.a.9.0")
	x.segment(9, 0, bare(7, 3), bare(8, 9), bare(9, 2), bare(11, 3), bare(13, 9))
	x.counts(64, 2, 2, 2)
	x.whole(9, bare(7, 3), bare(8, 9), bare(9, 2), bare(11, 3), bare(13, 9), bare(14, 2))
	x.whole(1, bares(1, 5, 6, 10, 12)...)
	x.clean()
}

// TestU4ManyParts: what many parts have at hand goes as one segment, by positions; what was taken back of them goes not.
func TestU4ManyParts(t *testing.T) {
	const many = 20
	x := begun(t, 1000000, 32*3*many)
	x.begin(1, 1)
	for xid := 2; xid <= many; xid++ {
		x.part(xid, 1+xid/3, xid)
	}
	var left []api.Change
	for i := range 3 * many {
		c := bare(100+i, 1+i*7%many)
		x.add(c)
		if c.Xid != many {
			left = append(left, c)
		}
	}
	x.counts(32*3*many, 3*many, 0, 1)
	x.back(many)
	x.add(bares(1, 200, 201, 202)...)
	left = append(left, bares(1, 200, 201, 202)...)
	x.counts(32*3*many, 3*many, 0, 1)
	x.add(bare(203, 2))
	x.counts(32, 1, 1, 1)
	x.segment(1, 0, left...)
	x.whole(1, append(left, bare(203, 2))...)
	x.clean()
}

// TestU4MostAtHandAlone: what stands in files counts nothing when room is made.
func TestU4MostAtHandAlone(t *testing.T) {
	x := begun(t, 100000, 96)
	x.begin(1, 1)
	x.begin(2, 2)
	x.add(bares(1, 3, 4, 5)...)
	x.add(bare(6, 1))
	x.lists("spill.a.1.0")
	x.add(bares(2, 7, 8)...)
	x.add(bare(9, 1))
	x.lists("spill.a.1.0", "spill.a.2.0")
	x.segment(2, 0, bares(2, 7, 8)...)
	x.counts(64, 2, 2, 2)
	x.whole(1, bares(1, 3, 4, 5, 6, 9)...)
	x.whole(2, bares(2, 7, 8)...)
	x.clean()
}

// TestU4Several: as many transactions are written as there must be, the greatest first, and no more.
func TestU4Several(t *testing.T) {
	x := begun(t, 100000, 240)
	for xid := 1; xid <= 4; xid++ {
		x.begin(xid, xid)
	}
	x.add(bare(10, 1), sized(11, 2, 70), sized(12, 3, 90), sized(13, 4, 48))
	x.counts(240, 4, 0, 4)
	x.add(sized(14, 1, 120))
	// 3 went, then 2: 80 are left.
	x.lists("spill.a.2.0", "spill.a.3.0")
	x.counts(200, 3, 2, 4)
	x.add(sized(15, 1, 41))
	// 1 went, with 152: 48 are left.
	x.lists("spill.a.1.0", "spill.a.2.0", "spill.a.3.0")
	x.segment(1, 0, bare(10, 1), sized(14, 1, 120))
	x.counts(89, 2, 3, 4)
	x.whole(1, bare(10, 1), sized(14, 1, 120), sized(15, 1, 41))
	x.whole(2, sized(11, 2, 70))
	x.whole(3, sized(12, 3, 90))
	x.whole(4, sized(13, 4, 48))
	x.clean()
}

// TestU4Segments: as many as layer 14 has for a number; then it refuses, till something of it is taken away.
func TestU4Segments(t *testing.T) {
	x := begun(t, 100000000, 0)
	x.begin(1, 1)
	for i := range api.MaxSegments {
		if e := x.b.Add(bare(i+2, 1)); e != api.OK {
			t.Fatalf("Add %d: %d", i, e)
		}
	}
	x.add(bare(api.MaxSegments+2, 1))
	x.counts(32, 1, api.MaxSegments, 1)
	x.begin(2, api.MaxSegments+3)
	for range 2 {
		x.adds(bare(api.MaxSegments+4, 1), api.ErrFileFull)
		x.adds(bare(api.MaxSegments+4, 2), api.ErrFileFull)
		x.counts(32, 1, api.MaxSegments, 2)
	}
	s := x.commit(1)
	x.counts(32+32*api.MaxSegments, 1+api.MaxSegments, api.MaxSegments, 2)
	for i := range api.MaxSegments + 1 {
		if c, ok, e := s.Next(); c.Lsn != i+2 || !ok || e != api.OK {
			t.Fatalf("Next: %v, %v, %d, want %d", c, ok, e, i+2)
		}
	}
	x.nothing(s, api.OK)
	x.abort(2)
	x.clean()
}

func TestU8Size(t *testing.T) {
	for i, w := range []struct {
		c    api.Change
		size int
	}{
		{api.Change{}, 32},
		{bare(1, 1), 32},
		{api.Change{Lsn: -1, Xid: math.MinInt, Kind: 99, Table: -7}, 32},
		{api.Change{Old: api.Row{}, New: api.Row{}}, 32},
		{api.Change{Old: row(api.Value{})}, 34},
		{api.Change{New: row(api.Value{})}, 34},
		{api.Change{Old: row(api.Value{}), New: row(api.Value{}, api.Value{})}, 37},
		{api.Change{New: row(number(5), api.Value{}, text("a"), truth(1))}, 32 + 8},
		{api.Change{Old: row(text(""))}, 32 + 3},
		{api.Change{Old: row(text(strings.Repeat("x", 127)))}, 32 + 3 + 127},
		{api.Change{Old: row(text(strings.Repeat("x", 200)))}, 32 + 4 + 200},
		{api.Change{Old: row(text(strings.Repeat("x", 201)))}, 32},
		{api.Change{Old: row(text(strings.Repeat("x", 201))), New: row(api.Value{})}, 34},
		{api.Change{Old: row(truth(0)), New: row(truth(2))}, 34},
		{api.Change{Old: make(api.Row, 8), New: make(api.Row, 9)}, 32 + 9},
		{api.Change{Old: make(api.Row, 100000)}, 32},
		{api.Change{Old: row(number(1), api.Value{Kind: 7})}, 32},
		{api.Change{Old: row(number(math.MaxInt))}, 32 + len(rowBytes(row(number(math.MaxInt))))},
	} {
		if got := reorder.Size(w.c); got != w.size {
			t.Errorf("Size of number %d: %d, want %d", i, got, w.size)
		}
	}
	for size := 35; size <= 236; size++ {
		if got := reorder.Size(sized(1, 1, size)); got != size && size != 163 {
			t.Errorf("Size: %d, want %d", got, size)
		}
	}
}

// TestU8Oldest: the least of those that are open, whatever their numbers are, also while one is told.
func TestU8Oldest(t *testing.T) {
	x := begun(t, 10000, 64)
	x.oldest(0)
	x.begin(9, 10)
	x.oldest(10)
	x.begin(3, 20)
	x.part(1, 3, 25)
	x.begin(5, 30)
	x.add(bare(31, 5))
	x.oldest(10)
	s := x.commit(9)
	x.oldest(10)
	x.nothing(s, api.OK)
	x.oldest(20)
	x.abort(5)
	x.oldest(20)
	x.begin(9, 40)
	x.oldest(20)
	x.back(1)
	x.abort(3)
	x.oldest(40)
	s = x.commit(9)
	x.oldest(40)
	x.nothing(s, api.OK)
	x.oldest(0)
}
