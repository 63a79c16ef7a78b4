package history_test

import (
	"math"
	"testing"

	"confluence/api"
)

func TestT3At(t *testing.T) {
	x := begun(t, 100, table(1, 1), table(4, 1))
	x.put(200, table(1, 2))
	x.gone(300, 1)
	x.put(400, table(1, 3))
	x.put(500, table(2, 1))
	x.gone(600, 2)
	x.none(1, 99, 1, 0, -1, math.MinInt, 300, 301, 399)
	x.at(table(1, 1), 100, 101, 150, 199)
	x.at(table(1, 2), 200, 201, 299)
	x.at(table(1, 3), 400, 401, 499, 500, 600, 601, 1000, math.MaxInt-1, math.MaxInt)
	x.none(2, 99, 100, 499, 600, 601, math.MaxInt)
	x.at(table(2, 1), 500, 501, 599)
	x.none(4, 99, 0, math.MinInt)
	x.at(table(4, 1), 100, 199, 200, 300, 600, math.MaxInt)
	x.noted(7)
}

// TestT3NumbersThatAreNone: at positions that are known, and at others.
func TestT3NumbersThatAreNone(t *testing.T) {
	x := begun(t, 100, table(1, 1), table(3, 1))
	x.put(200, table(1, 2))
	for _, number := range []int{0, -1, -3, 2, 4, api.MaxXid, api.MaxXid + 1, 1<<32 + 1, math.MinInt, math.MaxInt} {
		x.none(number, 99, 100, 199, 200, 201, math.MaxInt, math.MinInt, 0)
	}
	for n := range 8 { // neither a position nor a place is taken for a number
		if n != 1 && n != 3 {
			x.none(n, 100, 200)
		}
	}
	x.none(100, 100)
	x.none(200, 200)
}

func TestT3List(t *testing.T) {
	x := begun(t, 100, table(3, 1), table(70, 1))
	x.put(200, table(9, 1))
	x.put(300, table(1, 1))
	x.gone(400, 70)
	x.put(500, table(70, 2))
	x.put(600, table(9, 2))
	x.gone(700, 3)
	x.unknown(99, 98, 1, 0, -1, math.MinInt)
	for _, lsn := range []int{100, 101, 199} {
		x.lists(lsn, table(3, 1), table(70, 1))
	}
	for _, lsn := range []int{200, 299} {
		x.lists(lsn, table(3, 1), table(9, 1), table(70, 1))
	}
	for _, lsn := range []int{300, 399} {
		x.lists(lsn, table(1, 1), table(3, 1), table(9, 1), table(70, 1))
	}
	for _, lsn := range []int{400, 499} {
		x.lists(lsn, table(1, 1), table(3, 1), table(9, 1))
	}
	for _, lsn := range []int{500, 599} {
		x.lists(lsn, table(1, 1), table(3, 1), table(9, 1), table(70, 2))
	}
	for _, lsn := range []int{600, 699} {
		x.lists(lsn, table(1, 1), table(3, 1), table(9, 2), table(70, 2))
	}
	for _, lsn := range []int{700, 701, 9999, math.MaxInt} {
		x.lists(lsn, table(1, 1), table(9, 2), table(70, 2))
	}
}

// TestT3ListRises: by numbers, not by when they were noted, nor by their names or their digits.
func TestT3ListRises(t *testing.T) {
	x := begun(t, 1)
	var want []api.Table
	for i, number := range []int{100, 9, 1000, 99, 10, 1, 2, api.MaxXid, 11, 90} {
		x.put(2+i, table(number, 1+i))
	}
	for _, at := range []struct{ number, version int }{{1, 6}, {2, 7}, {9, 2}, {10, 5}, {11, 9}, {90, 10}, {99, 4}, {100, 1}, {1000, 3}, {api.MaxXid, 8}} {
		want = append(want, table(at.number, at.version))
	}
	for range 20 {
		x.lists(11, want...)
	}
}

// TestT3ManyNotesOfOneNumber: each of its positions, one ahead of it, and one behind.
func TestT3ManyNotesOfOneNumber(t *testing.T) {
	x := begun(t, 10, table(1, 1))
	for i := 2; i <= 60; i++ {
		if i%5 == 0 {
			x.gone(10*i, 1)
		} else {
			x.put(10*i, table(1, i))
		}
	}
	for i := 1; i <= 60; i++ {
		if i%5 == 0 {
			x.none(1, 10*i, 10*i+1, 10*i+9)
		} else {
			x.at(table(1, i), 10*i, 10*i+1, 10*i+9)
		}
	}
	x.noted(60)
}

// TestT3AskingChangesNothing: whatever is asked.
func TestT3AskingChangesNothing(t *testing.T) {
	x := begun(t, 100, table(1, 1))
	x.put(200, table(1, 2))
	x.unchanged("asking", func() {
		for _, lsn := range []int{math.MinInt, 0, 99, 100, 300, 500, math.MaxInt} {
			x.h.List(lsn)
			for _, number := range []int{math.MinInt, -1, 0, 1, 2, math.MaxInt} {
				x.h.At(lsn, number)
			}
		}
		x.noted(2)
	})
	x.spans(100, 200)
	x.put(201, table(1, 3)) // positions far behind that were asked do not stand for noted ones
	x.at(table(1, 3), 201)
}
