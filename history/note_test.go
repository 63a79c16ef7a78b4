package history_test

import (
	"math"
	"testing"

	"confluence/api"
)

func TestT2Put(t *testing.T) {
	x := begun(t, 100, table(1, 1), table(4, 1))
	x.put(101, table(1, 2)) // one that is there
	x.spans(100, 101)
	x.put(200, table(9, 1)) // one above all others
	x.put(201, table(2, 1)) // one between
	x.put(300, table(1, 2)) // the same once more
	x.put(400, table(1, 1)) // and as it was
	x.spans(100, 400)
	x.noted(7)
	x.lists(100, table(1, 1), table(4, 1))
	x.lists(101, table(1, 2), table(4, 1))
	x.lists(199, table(1, 2), table(4, 1))
	x.lists(200, table(1, 2), table(4, 1), table(9, 1))
	x.lists(201, table(1, 2), table(2, 1), table(4, 1), table(9, 1))
	x.lists(300, table(1, 2), table(2, 1), table(4, 1), table(9, 1))
	x.lists(400, table(1, 1), table(2, 1), table(4, 1), table(9, 1))
}

func TestT2PutRefused(t *testing.T) {
	x := begun(t, 100, table(5, 1))
	x.put(200, table(5, 2))
	x.unchanged("Put of what is not right", func() {
		for _, wrong := range noTables() {
			for _, lsn := range []int{201, 200, 199, 100, 1, 0, -1, math.MinInt, math.MaxInt} {
				x.puts(lsn, wrong, api.ErrArg)
			}
		}
		x.spans(100, 200)
	})
	x.unchanged("Put at a position that is not above the last one", func() {
		for _, lsn := range []int{200, 199, 150, 100, 99, 1, 0, -1, math.MinInt} {
			for _, number := range []int{5, 1, 9, api.MaxXid} {
				x.puts(lsn, table(number, 3), api.ErrHistoryOrder)
			}
		}
		x.spans(100, 200)
	})
	x.put(201, table(5, 3))
	x.at(table(5, 1), 100, 199)
	x.at(table(5, 2), 200)
	x.at(table(5, 3), 201)
	x.noted(3)
}

// TestT2PutAtTheBeginning: New's position is the last one, with tables and without.
func TestT2PutAtTheBeginning(t *testing.T) {
	for _, l := range [][]api.Table{nil, tables(1), tables(1, 2)} {
		x := begun(t, 100, l...)
		x.unchanged("a note at the beginning", func() {
			x.puts(99, table(1, 2), api.ErrHistoryOrder)
			x.puts(100, table(1, 2), api.ErrHistoryOrder)
			x.goes(99, 1, api.ErrHistoryOrder)
			x.goes(100, 1, api.ErrHistoryOrder)
		})
		x.put(101, table(1, 2))
		x.at(table(1, 2), 101)
	}
}

func TestT2Gone(t *testing.T) {
	x := begun(t, 100, table(1, 1), table(4, 1))
	x.gone(101, 4)
	x.spans(100, 101)
	x.noted(3)
	x.lists(100, table(1, 1), table(4, 1))
	x.lists(101, table(1, 1))
	x.none(4, 101, math.MaxInt)
	x.gone(102, 1)
	x.lists(102)
	x.spans(100, 102)
	x.put(103, table(4, 2)) // it is there again
	x.lists(103, table(4, 2))
	x.gone(104, 4)
	x.lists(104)
	x.noted(6)
	x.at(table(4, 1), 100)
	x.none(4, 101, 102, 104, 105)
	x.at(table(4, 2), 103)
}

func TestT2GoneRefused(t *testing.T) {
	x := begun(t, 100, table(1, 1), table(4, 1))
	x.put(200, table(2, 1))
	x.gone(300, 1)
	x.unchanged("Gone of what is not there", func() {
		for _, number := range []int{1, 3, 5, 0, -1, api.MaxXid, api.MaxXid + 1, math.MinInt, math.MaxInt} {
			for _, lsn := range []int{301, 302, math.MaxInt} {
				x.goes(lsn, number, api.ErrHistoryNone)
			}
		}
		x.spans(100, 300)
	})
	x.unchanged("Gone at a position that is not above the last one", func() {
		for _, lsn := range []int{300, 299, 200, 150, 100, 99, 1, 0, -1, math.MinInt} {
			for _, number := range []int{1, 2, 3, 4, 0, -1, math.MaxInt} {
				x.goes(lsn, number, api.ErrHistoryOrder)
			}
		}
		x.spans(100, 300)
	})
	x.gone(301, 4)
	x.goes(302, 4, api.ErrHistoryNone)
	x.put(302, table(1, 2))
	x.gone(303, 1)
	x.goes(304, 1, api.ErrHistoryNone)
	x.gone(304, 2)
	x.lists(304)
	x.noted(8)
}

// TestT2AtTheEndOfNumbers: behind the greatest position nothing can be noted.
func TestT2AtTheEndOfNumbers(t *testing.T) {
	x := begun(t, math.MaxInt-2, tables(1, 2)...)
	x.put(math.MaxInt-1, table(1, 2))
	x.gone(math.MaxInt, 2)
	x.puts(math.MaxInt, table(1, 3), api.ErrHistoryOrder)
	x.goes(math.MaxInt, 1, api.ErrHistoryOrder)
	x.puts(math.MinInt, table(1, 3), api.ErrHistoryOrder)
	x.lists(math.MaxInt-2, tables(1, 2)...)
	x.lists(math.MaxInt-1, table(1, 2), table(2, 1))
	x.lists(math.MaxInt, table(1, 2))
	x.spans(math.MaxInt-2, math.MaxInt)
	y := begun(t, math.MaxInt, table(1, 1))
	y.puts(math.MaxInt, table(1, 2), api.ErrHistoryOrder)
	y.goes(math.MaxInt, 1, api.ErrHistoryOrder)
	y.at(table(1, 1), math.MaxInt)
	y.trims(math.MaxInt, 0, 1)
}
