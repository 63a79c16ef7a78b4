package merge_test

import (
	"math"
	"slices"
	"testing"

	"confluence/api"
	"confluence/merge"
)

// TestExamples: the chapter's.
func TestExamples(t *testing.T) {
	m := merged(at(1, 1, 4, 4), at(2, 2, 4, 9))
	holds(t, m, 2)
	tells(t, m, change(1, 1, 1), change(2, 2, 1), change(4, 1, 2), change(4, 1, 3), change(4, 2, 2), change(9, 2, 3))
	ends(t, m)

	m = merged(at(1, 5, 3), at(2, 4))
	tells(t, m, change(4, 2, 1), change(5, 1, 1), change(3, 1, 2))
	ends(t, m)
}

func TestG1NoRows(t *testing.T) {
	m := merge.New()
	holds(t, m, 0)
	ends(t, m)
}

// TestG1NilRow: a nil function is a row of nothing, wherever it stands.
func TestG1NilRow(t *testing.T) {
	m := merge.New()
	m.Add(nil)
	holds(t, m, 0)
	ends(t, m)
	m.Add(nil)
	m.Add(at(1, 5, 7).next)
	m.Add(nil)
	m.Add(at(2, 5, 6).next)
	holds(t, m, 2)
	tells(t, m, change(5, 1, 1))
	m.Add(nil)
	holds(t, m, 2)
	tells(t, m, change(5, 2, 1), change(6, 2, 2), change(7, 1, 2))
	ends(t, m)
}

// TestG1FalseAtOnce: such a row holds nothing, also where a change stands beside its false.
func TestG1FalseAtOnce(t *testing.T) {
	l := []*source{at(1), at(2, 5), at(3), at(4)}
	m := merged(l...)
	holds(t, m, 1)
	asks(t, "Add", l, 1, 1, 1, 1)
	tells(t, m, change(5, 2, 1))
	ends(t, m)
	asks(t, "at the end", l, 1, 2, 1, 1)
}

// TestG1ZeroChange: a change of which all is zero is one.
func TestG1ZeroChange(t *testing.T) {
	m := merged(of(api.Change{}, api.Change{}), of(api.Change{}))
	for n := range 3 {
		holds(t, m, []int{2, 2, 1}[n])
		tells(t, m, api.Change{})
	}
	ends(t, m)
}

// TestG1AnyChange: what a change says besides its Lsn is told as it is, and orders nothing.
func TestG1AnyChange(t *testing.T) {
	odd := []api.Change{
		{Lsn: 1, Xid: math.MaxInt, Kind: math.MinInt, Table: -1},
		{Lsn: 2, Xid: -5, Kind: 99, Table: math.MaxInt, Old: api.Row{}, New: api.Row{}},
		{Lsn: 3, Old: make(api.Row, 50), New: api.Row{{Kind: -9, N: 9, S: "\xff\x00"}}},
		{Lsn: 4, Xid: math.MinInt, New: api.Row{text(string(make([]byte, 5000)))}},
	}
	m := merged(of(odd[3]), of(odd[2]), of(odd[1]), of(odd[0]))
	tells(t, m, odd...)
	ends(t, m)
}

// TestG1OneRow: it comes out as it is, whether it rises or not.
func TestG1OneRow(t *testing.T) {
	for _, l := range [][]int{{1}, {1, 2, 3}, {3, 2, 1}, {4, 4, 4}, {5, -5, 5}, {math.MaxInt, math.MinInt, 0}} {
		m := merged(at(1, l...))
		for n, lsn := range l {
			holds(t, m, 1)
			tells(t, m, change(lsn, 1, n+1))
		}
		ends(t, m)
	}
}

// TestG1RowsOfOne: many rows of one change each, added in any order of their positions.
func TestG1RowsOfOne(t *testing.T) {
	for _, step := range []int{1, 7, 41, 99} {
		var l []*source
		for i := range 100 {
			l = append(l, at(i+1, i*step%100))
		}
		m := merged(l...)
		for lsn := range 100 {
			holds(t, m, 100-lsn)
			c, is := m.Next()
			if !is || c.Lsn != lsn || (c.Xid-1)*step%100 != lsn {
				t.Fatalf("Next: %v, %v", c, is)
			}
		}
		ends(t, m)
	}
}

// TestG1Edges: the least and the greatest number, and those less than 0, stand as numbers do.
func TestG1Edges(t *testing.T) {
	edges := []int{math.MinInt, math.MinInt + 1, math.MinInt32, -1, 0, 1, math.MaxInt32, math.MaxInt - 1, math.MaxInt}
	for turn := range edges {
		var l []*source
		for i := range edges {
			lsn := edges[(turn+5*i)%len(edges)]
			l = append(l, at(i+1, lsn, lsn))
		}
		m := merged(l...)
		for n := range 2 * len(edges) {
			if c, is := m.Next(); !is || c.Lsn != edges[n/2] {
				t.Fatalf("Next: %v, %v, want %d", c, is, edges[n/2])
			}
		}
		ends(t, m)
	}
}

// TestG1ManyOfOneLsn: row by row, each to its end.
func TestG1ManyOfOneLsn(t *testing.T) {
	for _, lsn := range []int{0, 5, -5, math.MinInt, math.MaxInt} {
		var l []*source
		for row := range 300 {
			l = append(l, at(row+1, lsn, lsn, lsn))
		}
		m := merged(l...)
		for row := range 300 {
			holds(t, m, 300-row)
			tells(t, m, change(lsn, row+1, 1), change(lsn, row+1, 2), change(lsn, row+1, 3))
		}
		ends(t, m)
	}
}

// TestG1FirstRowComesLate: a row that was added first comes first at a position, also where it comes to it behind the others.
func TestG1FirstRowComesLate(t *testing.T) {
	m := merged(at(1, 1, 2, 3, 9), at(2, 9, 9), at(3, 2, 9), at(4, 9))
	tells(t, m, change(1, 1, 1), change(2, 1, 2), change(2, 3, 1), change(3, 1, 3))
	tells(t, m, change(9, 1, 4), change(9, 2, 1), change(9, 2, 2), change(9, 3, 2), change(9, 4, 1))
	ends(t, m)

	m = merged(at(1, 9, 4), at(2, 4, 4, 9))
	tells(t, m, change(4, 2, 1), change(4, 2, 2), change(9, 1, 1), change(4, 1, 2), change(9, 2, 3))
	ends(t, m)
}

// TestG1FirstIsByAdding: rows that have said false, or hold nothing yet, do not change which row was added first.
func TestG1FirstIsByAdding(t *testing.T) {
	m := merged(at(1), at(2, 1), at(3, 5))
	tells(t, m, change(1, 2, 1))
	m.Add(at(4, 5).next)
	m.Add(nil)
	m.Add(at(5, 1, 5).next)
	tells(t, m, change(1, 5, 1))
	m.Add(at(6, 5).next)
	tells(t, m, change(5, 3, 1), change(5, 4, 1), change(5, 5, 2), change(5, 6, 1))
	ends(t, m)
}

// TestG1EachFirst: whichever of several rows comes to a position late, the rows tell it in their order.
func TestG1EachFirst(t *testing.T) {
	const rows = 12
	for late := range 1 << rows {
		var l []*source
		for row := range rows {
			if late>>row&1 == 1 {
				l = append(l, at(row+1, rows-row, 50))
			} else {
				l = append(l, at(row+1, 50))
			}
		}
		var got []int
		for _, c := range told(merged(l...)) {
			if c.Lsn == 50 {
				got = append(got, c.Xid)
			}
		}
		if len(got) != rows || !slices.IsSorted(got) {
			t.Fatalf("late %b: %v", late, got)
		}
	}
}

// TestG1TellsTheHeldOne: which is told is settled ahead of asking its row again, whatever that tells then.
func TestG1TellsTheHeldOne(t *testing.T) {
	m := merged(at(1, 10, 1, 20, 2), at(2, 15))
	tells(t, m, change(10, 1, 1), change(1, 1, 2), change(15, 2, 1), change(20, 1, 3), change(2, 1, 4))
	ends(t, m)
}

// TestG1Great: many rows, none of which is looked at in vain.
func TestG1Great(t *testing.T) {
	const rows = 100000
	m := merge.New()
	for row := range rows {
		first, left := row*7919%rows, 2
		m.Add(func() (api.Change, bool) {
			left--
			return api.Change{Lsn: first + rows*(1-left), Xid: row}, left >= 0
		})
	}
	holds(t, m, rows)
	for lsn := range 2 * rows {
		if c, is := m.Next(); !is || c.Lsn != lsn || c.Xid*7919%rows != lsn%rows {
			t.Fatalf("Next: %v, %v, want %d", c, is, lsn)
		}
	}
	ends(t, m)
}
