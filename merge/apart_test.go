package merge_test

import (
	"slices"
	"sync"
	"testing"

	"confluence/api"
	"confluence/merge"
)

// rewriting is a row that tells its changes in one piece of memory, which it writes over when it is asked again, also at its end.
func rewriting(memory api.Row, s *source) func() (api.Change, bool) {
	return func() (api.Change, bool) {
		spoil(memory)
		c, is := s.next()
		old := copy(memory, c.Old)
		c.New = memory[old : old+copy(memory[old:], c.New)]
		c.Old = memory[:old]
		if !is {
			spoil(memory)
		}
		return c, is
	}
}

// TestRowsThatWriteOver: what a row told is told as it was, whatever the row, or another one, writes over it later.
func TestRowsThatWriteOver(t *testing.T) {
	want := []api.Change{change(1, 1, 1), change(2, 2, 1), change(2, 3, 1), change(4, 1, 2), change(4, 1, 3), change(4, 2, 2), change(9, 2, 3), change(3, 2, 4)}
	for _, shared := range []bool{false, true} {
		one := make(api.Row, 10)
		m := merge.New()
		for _, s := range []*source{at(1, 1, 4, 4), at(2, 2, 4, 9, 3), at(3, 2)} {
			if shared {
				m.Add(rewriting(one, s))
			} else {
				m.Add(rewriting(make(api.Row, 10), s))
			}
		}
		var kept []api.Change
		for _, w := range want {
			c, is := m.Next()
			if !is || !same(c, w) {
				t.Fatalf("Next: %v, %v, want %v", c, is, w)
			}
			kept = append(kept, c)
		}
		ends(t, m)
		if !sameLists(kept, want) {
			t.Errorf("what came out earlier is %v now", kept)
		}
	}
}

// TestTellersThatWriteOver: what is held is what the row told, also if its memory is written over while it is held.
func TestTellersThatWriteOver(t *testing.T) {
	m := merge.New()
	mine := changes(1, 5, 6, 7)
	left := slices.Clone(mine)
	m.Add(func() (api.Change, bool) {
		if len(left) == 0 {
			return api.Change{}, false
		}
		c := left[0]
		left = left[1:]
		return c, true
	})
	for n, want := range changes(1, 5, 6, 7) {
		spoil(mine[n].Old)
		spoil(mine[n].New)
		tells(t, m, want)
	}
	ends(t, m)
}

// TestCallersThatWriteOver: what came out is written over, with its room; neither what is told later nor the rows' own memory changes.
func TestCallersThatWriteOver(t *testing.T) {
	alike := change(5, 1, 1)
	l := []*source{of(alike, alike, alike), of(alike), of(alike, alike)}
	m := merged(l...)
	var kept []api.Change
	for n := range 6 {
		c, is := m.Next()
		if !is || !same(c, change(5, 1, 1)) {
			t.Fatalf("number %d: %v, %v", n, c, is)
		}
		if n%2 == 0 {
			kept = append(kept, c)
			continue
		}
		spoil(c.Old)
		if !slices.Equal(c.New, change(5, 1, 1).New) {
			t.Fatalf("New hangs on Old: %v", c)
		}
		spoil(c.New)
		_ = append(c.Old, text("more"))
	}
	ends(t, m)
	for _, c := range append(kept, alike) {
		if !same(c, change(5, 1, 1)) {
			t.Errorf("what came out earlier, or what was told, is %v now", c)
		}
	}
}

// TestRowsOwnMemoryIsLeft: nothing is written into what a row tells, nor into the room behind it.
func TestRowsOwnMemoryIsLeft(t *testing.T) {
	whole := api.Row{number(1), number(2), number(3), number(4), number(5), number(6)}
	was := slices.Clone(whole)
	left := 3
	m := merge.New()
	m.Add(func() (api.Change, bool) {
		left--
		return api.Change{Lsn: left, Old: whole[:2], New: whole[2:4]}, left >= 0
	})
	for c, is := m.Next(); is; c, is = m.Next() {
		if !slices.Equal(c.Old, was[:2]) || !slices.Equal(c.New, was[2:4]) {
			t.Fatalf("Next: %v", c)
		}
		_, _ = append(c.Old, number(7)), append(c.New, number(7))
		spoil(c.Old)
		spoil(c.New)
		if !slices.Equal(whole, was) {
			t.Fatalf("the row's own memory is %v now", whole)
		}
	}
}

// TestTwoMerges: each tells its own, whatever is done with the other between.
func TestTwoMerges(t *testing.T) {
	one, other := merge.New(), merge.New()
	if one == other {
		t.Fatal("two merges are one")
	}
	one.Add(at(1, 5, 7).next)
	holds(t, other, 0)
	ends(t, other)
	other.Add(at(2, 4, 6).next)
	other.Add(at(3, 5).next)
	one.Add(at(4, 4).next)
	holds(t, one, 2)
	holds(t, other, 2)
	tells(t, one, change(4, 4, 1), change(5, 1, 1))
	tells(t, other, change(4, 2, 1))
	tells(t, one, change(7, 1, 2))
	ends(t, one)
	tells(t, other, change(5, 3, 1), change(6, 2, 2))
	one.Add(at(5, 1).next)
	ends(t, other)
	tells(t, one, change(1, 5, 1))
	ends(t, one)
}

// TestOneRowInTwoMerges: each merge asks it for itself.
func TestOneRowInTwoMerges(t *testing.T) {
	s := at(1, 1, 2, 3, 4, 5)
	one, other := merged(s), merged(s)
	tells(t, one, change(1, 1, 1))
	tells(t, other, change(2, 1, 2), change(4, 1, 4))
	tells(t, one, change(3, 1, 3))
	tells(t, other, change(5, 1, 5))
	ends(t, one)
	ends(t, other)
}

// TestMergeOfMerges: a merge's Next is a row for another.
func TestMergeOfMerges(t *testing.T) {
	inner := merged(at(1, 2, 5), at(2, 3, 5))
	m := merge.New()
	m.Add(inner.Next)
	holds(t, inner, 2)
	m.Add(at(3, 1, 4, 5).next)
	tells(t, m, change(1, 3, 1), change(2, 1, 1), change(3, 2, 1), change(4, 3, 2), change(5, 1, 2), change(5, 2, 2), change(5, 3, 3))
	ends(t, m)
}

// TestRowsThatAdd: a row may add further rows to the merge that asks it; it was added ahead of them.
func TestRowsThatAdd(t *testing.T) {
	m := merge.New()
	s, rows := at(1, 5, 5, 6), 1
	m.Add(func() (api.Change, bool) {
		rows++
		m.Add(at(rows, 5).next)
		return s.next()
	})
	holds(t, m, 2)
	tells(t, m, change(5, 1, 1))
	holds(t, m, 3)
	tells(t, m, change(5, 1, 2), change(5, 2, 1), change(5, 3, 1), change(5, 4, 1), change(6, 1, 3), change(5, 5, 1))
	ends(t, m)
}

// TestRowsThatTake: rows may ask the merge that asks them; nothing is lost, nothing doubled, and all ends.
func TestRowsThatTake(t *testing.T) {
	m := merge.New()
	var got []api.Change
	for row := range 20 {
		s := at(row, 1, 2, 3, row)
		m.Add(func() (api.Change, bool) {
			held := m.Held()
			c, is := m.Next()
			if is != (held > 0) {
				t.Errorf("Next: %v of %d", is, held)
			}
			if is && s.asked%2 == 0 {
				got = append(got, c)
			} else if is {
				m.Add(of(c).next)
			}
			return s.next()
		})
	}
	got = append(got, told(m)...)
	ends(t, m)
	times := map[[3]int]int{}
	for _, c := range got {
		times[[3]int{c.Lsn, c.Xid, c.Table}]++
		if !same(c, change(c.Lsn, c.Xid, c.Table)) {
			t.Errorf("told: %v", c)
		}
	}
	if len(got) != 80 || len(times) != 80 {
		t.Errorf("%d were told, %d of them different", len(got), len(times))
	}
}

// TestSideBySide: merges of which each has its goroutine, and Lists and Rising of the same lists.
func TestSideBySide(t *testing.T) {
	shared := [][]api.Change{changes(1, 1, 4, 4), changes(2, 2, 4, 9), changes(3, 4)}
	want := merge.Lists(shared)
	var all sync.WaitGroup
	for range 8 {
		all.Add(1)
		go func() {
			defer all.Done()
			for range 200 {
				out := merge.Lists(shared)
				got := told(merged(at(1, 1, 4, 4), at(2, 2, 4, 9), at(3, 4)))
				if !sameLists(out, want) || !sameLists(got, want) || merge.Rising(shared[0]) || !merge.Rising(shared[1]) {
					t.Error("side by side")
				}
				spoilAll(out)
			}
		}()
	}
	all.Wait()
}
