package spill_test

import (
	"fmt"
	"math/rand"
	"slices"
	"strings"
	"testing"

	"confluence/api"
	"confluence/spill"
)

func TestExamples(t *testing.T) {
	d := loaded(t, 10000)
	s := opened(t, d, "a")
	writes(t, s, 7, api.OK, change(5, 7), change(6, 7))
	lists(t, d, "spill.a.7.0")
	writes(t, s, 7, api.OK, change(8, 7))
	lists(t, d, "spill.a.7.0", "spill.a.7.1")
	if s.Segments(7) != 2 || !slices.Equal(s.All(), []int{7}) {
		t.Errorf("example 1: %d, %v", s.Segments(7), s.All())
	}
	reads(t, s, 7, 1, api.OK, change(8, 7))
	cursorNot(t, s, 7, 2, api.ErrSpillNone)
	is(t, "example 1: Remove", s.Remove(7), api.OK)
	lists(t, d)

	writes(t, s, 7, api.ErrArg)
	writes(t, s, 7, api.ErrArg, change(5, 7), change(5, 7))
}

// TestS6Three: three transactions between one another, each read again as it was written; nothing is left when all are removed.
func TestS6Three(t *testing.T) {
	d, s := begun(t, 100000)
	xids := []int{7, 77, 1}
	written := map[int][][]api.Change{}
	lsn := 1
	for round := range 5 {
		for i, xid := range xids {
			l := changes(lsn, xid, 1+(round+i)%4)
			lsn += len(l)
			writes(t, s, xid, api.OK, l...)
			written[xid] = append(written[xid], l)
		}
		readsAll(t, s, written)
	}
	for len(xids) > 0 {
		is(t, "Remove", s.Remove(xids[0]), api.OK)
		delete(written, xids[0])
		xids = xids[1:]
		readsAll(t, s, written)
		if n := 5 * len(xids); len(d.List()) != n {
			t.Errorf("the files are %q", d.List())
		}
	}
	lists(t, d)
	if d.Free() != 100000 {
		t.Errorf("Free: %d", d.Free())
	}
}

// readsAll holds all segments of all transactions against what was written.
func readsAll(t *testing.T, s *spill.Store, written map[int][][]api.Change) {
	t.Helper()
	var want [][2]int
	for xid, segments := range written {
		want = append(want, [2]int{xid, len(segments)})
		for k, l := range segments {
			reads(t, s, xid, k, api.OK, l...)
		}
		cursorNot(t, s, xid, len(segments), api.ErrSpillNone)
	}
	slices.SortFunc(want, func(a, b [2]int) int { return a[0] - b[0] })
	knows(t, s, want...)
}

// TestS6Random: many transactions, written and removed in any order, while the disk lives and has room.
func TestS6Random(t *testing.T) {
	source := rand.New(rand.NewSource(6))
	for range 60 {
		d, s := begun(t, 1000000)
		written := map[int][][]api.Change{}
		for range 60 {
			xid := 1 + source.Intn(12)
			if source.Intn(4) == 0 {
				is(t, "Remove", s.Remove(xid), api.OK)
				delete(written, xid)
				continue
			}
			l := someChanges(source)
			writes(t, s, xid, api.OK, l...)
			written[xid] = append(written[xid], l)
		}
		readsAll(t, s, written)
		sum := 0
		for xid, segments := range written {
			for k, l := range segments {
				if n, e := d.Size(named(xid, k)); n != len(laid(l...)) || e != api.OK {
					t.Errorf("%s has %d bytes, %d", named(xid, k), n, e)
				}
				sum++
			}
		}
		if len(d.List()) != sum {
			t.Errorf("there are %d files of %d segments", len(d.List()), sum)
		}
		for _, xid := range s.All() {
			is(t, "Remove", s.Remove(xid), api.OK)
		}
		lists(t, d)
	}
}

// someChanges are right ones at rising positions.
func someChanges(source *rand.Rand) []api.Change {
	var l []api.Change
	lsn := source.Intn(1000)
	for range 1 + source.Intn(6) {
		lsn += 1 + source.Intn(100)
		l = append(l, someChange(source, lsn))
	}
	return l
}

// TestS6DoesNotHangOnOthers: what a transaction has, and the bytes of its files, are the same whatever others do.
func TestS6DoesNotHangOnOthers(t *testing.T) {
	source := rand.New(rand.NewSource(7))
	for range 50 {
		alone, a := begun(t, 1000000)
		among, b := begun(t, 1000000)
		for range 30 {
			other := 100 + source.Intn(5)
			b.Write(other, someChanges(source))
			if source.Intn(3) == 0 {
				b.Remove(other)
			}
			if source.Intn(8) == 0 {
				is(t, "Remove", a.Remove(10), b.Remove(10))
			}
			l := someChanges(source)
			is(t, "Write", a.Write(10, l), b.Write(10, l))
			if a.Segments(10) != b.Segments(10) {
				t.Fatalf("Segments: %d, %d", a.Segments(10), b.Segments(10))
			}
		}
		var own []api.File
		for _, f := range bytesOf(among) {
			if strings.HasPrefix(f.Name, "spill.a.10.") {
				own = append(own, f)
			}
		}
		holds(t, alone, own...)
	}
}

// TestS6ManyChanges: a long segment, read to its end.
func TestS6ManyChanges(t *testing.T) {
	_, s := begun(t, 10000000)
	var l []api.Change
	for i := range 20000 {
		l = append(l, api.Change{Lsn: 3*i + 1, Xid: 7 + i%5, Kind: api.RecInsert, Table: 1, New: row(number(i), text(fmt.Sprint("row ", i)))})
	}
	writes(t, s, 7, api.OK, l...)
	reads(t, s, 7, 0, api.OK, l...)
}
