package reorder_test

import (
	"slices"
	"sync"
	"testing"

	"confluence/api"
	"confluence/files"
)

// spoil writes over a row and over the room behind it.
func spoil(r api.Row) {
	r = r[:cap(r)]
	for i := range r {
		r[i] = text("spoilt")
	}
}

// TestHandedInIsNotKept: the caller writes over the rows that it handed in, when Add has answered: what is at hand, what is written and what is told stay as they were.
func TestHandedInIsNotKept(t *testing.T) {
	for _, limit := range []int{0, 100, 200, never} {
		x := begun(t, 100000, limit)
		x.begin(1, 1)
		x.part(2, 1, 2)
		var want []api.Change
		memory := make(api.Row, 8)
		for i := range 20 {
			w := full(10+i, 1+i%2)
			c := w
			c.Old = memory[:copy(memory, w.Old)]
			c.New = memory[3 : 3+copy(memory[3:], w.New)]
			x.add(c)
			spoil(memory)
			want = append(want, w)
		}
		x.whole(1, want...)
		x.clean()
	}
}

// TestHandedInIsNotWritten: nothing is written into the rows that are handed in, nor into the room behind them, also where they are refused.
func TestHandedInIsNotWritten(t *testing.T) {
	for _, limit := range []int{0, never} {
		x := begun(t, 100000, limit)
		x.begin(1, 1)
		memory := row(number(1), number(2), number(3), number(4), number(5), number(6))
		was := slices.Clone(memory)
		c := api.Change{Lsn: 2, Xid: 1, Kind: api.RecUpdate, Table: 1, Old: memory[:2], New: memory[3:4]}
		x.add(c)
		x.adds(c, api.ErrReorderOrder)
		c.Lsn = 3
		x.add(c)
		c.Lsn, c.Kind = 4, 0
		x.adds(c, api.ErrArg)
		s := x.commit(1)
		for range 2 {
			got, _, _ := s.Next()
			if !slices.Equal(got.Old, was[:2]) || !slices.Equal(got.New, was[3:4]) {
				t.Errorf("Next: %v", got)
			}
			_, _ = append(got.Old, text("more")), append(got.New, text("more"))
			spoil(got.Old)
			spoil(got.New)
		}
		x.nothing(s, api.OK)
		if !slices.Equal(memory, was) {
			t.Errorf("what was handed in is %v now", memory)
		}
	}
}

// TestComesOutIsNew: what was told is written over, with its room: neither what is told later, nor what was told earlier, nor the files change.
func TestComesOutIsNew(t *testing.T) {
	for _, limit := range []int{0, 300, never} {
		x := begun(t, 100000, limit)
		x.begin(1, 1)
		var want []api.Change
		for i := range 30 {
			// All have the same rows.
			c := full(10, 1)
			c.Lsn = 10 + i
			x.add(c)
			want = append(want, c)
		}
		s := x.commit(1)
		files := bytesOf(x.d)
		var kept []api.Change
		for n, w := range want {
			got, ok, e := s.Next()
			if !ok || e != api.OK || !same(got, w) {
				t.Fatalf("Next: %v, %v, %d, want %v", got, ok, e, w)
			}
			if n%2 == 0 {
				kept = append(kept, got)
				continue
			}
			spoil(got.Old)
			if !slices.Equal(got.New, w.New) {
				t.Fatalf("New hangs on Old: %v", got)
			}
			spoil(got.New)
		}
		if !slices.Equal(bytesOf(x.d), files) {
			t.Errorf("the files are %q now", bytesOf(x.d))
		}
		x.nothing(s, api.OK)
		for n, c := range kept {
			if !same(c, want[2*n]) {
				t.Errorf("what came out earlier is %v now, was %v", c, want[2*n])
			}
		}
	}
}

// TestRowsWithoutValues: they are told alike, whether they stood in a file or not, and however they were handed in.
func TestRowsWithoutValues(t *testing.T) {
	for _, limit := range []int{0, never} {
		x := begun(t, 100000, limit)
		x.begin(1, 1)
		for lsn := 2; lsn < 6; lsn++ {
			c := bare(lsn, 1)
			if lsn%2 == 0 {
				c.Old, c.New = api.Row{}, make(api.Row, 0, 5)
			}
			x.add(c)
		}
		s := x.commit(1)
		for lsn := 2; lsn < 6; lsn++ {
			if c, ok, e := s.Next(); c.Lsn != lsn || c.Old != nil || c.New != nil || !ok || e != api.OK {
				t.Errorf("limit %d: Next: %v, %v, %d", limit, c, ok, e)
			}
		}
		x.nothing(s, api.OK)
	}
}

// TestTwoBuffers: two over files of their own, on one disk, with the same numbers and positions, each at its own pace.
func TestTwoBuffers(t *testing.T) {
	d, _ := files.New(100000)
	x, y := beside(t, d, "a", 64), beside(t, d, "b", 32)
	x.begin(1, 10)
	y.begin(1, 5)
	x.part(2, 1, 11)
	y.begin(2, 6)
	x.add(bare(12, 1), bare(13, 2), bare(14, 1))
	y.add(full(12, 1), full(13, 2), full(14, 1))
	x.counts(32, 1, 1, 1)
	y.counts(sizeOf(full(14, 1)), 1, 2, 2)
	x.lists("spill.a.1.0", "spill.b.1.0", "spill.b.2.0")
	s := x.commit(1)
	x.closed()
	y.add(full(15, 2))
	y.oldest(5)
	x.oldest(10)
	u := y.commit(2)
	x.tells(s, bare(12, 1))
	y.tells(u, full(13, 2))
	x.tells(s, bare(13, 2), bare(14, 1))
	x.nothing(s, api.OK)
	y.closed()
	y.tells(u, full(15, 2))
	y.nothing(u, api.OK)
	x.begin(2, 20)
	y.whole(1, full(12, 1), full(14, 1))
	y.begin(2, 16)
	y.abort(2)
	x.oldest(20)
	x.abort(2)
	x.clean()
	y.clean()
}

// TestTwoStreamsSideBySide: of two buffers, one whose stream never ends does not disturb the other.
func TestTwoStreamsSideBySide(t *testing.T) {
	d, _ := files.New(100000)
	x, y := beside(t, d, "a", 64), beside(t, d, "b", 64)
	for _, z := range []*bench{x, y} {
		z.begin(1, 1)
		z.add(bares(1, 2, 3, 4)...)
	}
	s, u := x.commit(1), y.commit(1)
	d.Truncate("spill.a.1.0", 1)
	x.tells(s, bare(2, 1))
	x.nothing(s, api.ErrSpillForm)
	y.tells(u, bares(1, 2, 3, 4)...)
	y.nothing(u, api.OK)
	x.closed()
	y.begin(1, 5)
	y.whole(1)
}

// TestAtOnce: buffers over disks of their own are used by several goroutines at a time.
func TestAtOnce(t *testing.T) {
	const many = 8
	var group sync.WaitGroup
	var told [many][]api.Change
	for i := range told {
		x := begun(t, 100000, 32*i)
		group.Go(func() {
			lsn := 0
			for range 50 {
				x.b.Begin(1, lsn+1)
				x.b.Part(2, 1, lsn+2)
				for _, c := range []api.Change{bare(lsn+3, 1), bare(lsn+4, 2), bare(lsn+5, 1)} {
					x.b.Add(c)
				}
				x.b.Back(2)
				lsn += 5
				s, _ := x.b.Commit(1)
				for c, ok, _ := s.Next(); ok; c, ok, _ = s.Next() {
					told[i] = append(told[i], c)
				}
			}
		})
	}
	group.Wait()
	for i, l := range told {
		if len(l) != 100 || !slices.EqualFunc(l, told[0], same) {
			t.Errorf("number %d told %v", i, l)
		}
	}
}
