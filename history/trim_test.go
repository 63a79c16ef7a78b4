package history_test

import (
	"fmt"
	"math"
	"testing"

	"confluence/api"
)

// grown has of the number 1 a table, a wider one, none, and one again; of 2 one that comes and goes; of 4 one that stays.
func grown(t *testing.T) *bench {
	t.Helper()
	x := begun(t, 100, table(1, 1), table(4, 1))
	x.put(200, table(1, 2))
	x.put(250, table(2, 1))
	x.gone(300, 1)
	x.gone(350, 2)
	x.put(400, table(1, 3))
	x.noted(7)
	x.spans(100, 400)
	return x
}

// TestT4OneTrim: of each position, how many are forgotten by one Trim of it.
func TestT4OneTrim(t *testing.T) {
	for _, c := range []struct{ lsn, forgotten, begin, last int }{
		{math.MinInt, 0, 100, 400}, {-1, 0, 100, 400}, {0, 0, 100, 400}, {1, 0, 100, 400}, {99, 0, 100, 400}, {100, 0, 100, 400},
		{101, 0, 101, 400}, {199, 0, 199, 400},
		{200, 1, 200, 400}, {201, 1, 201, 400}, {249, 1, 249, 400}, {250, 1, 250, 400}, {299, 1, 299, 400},
		{300, 3, 300, 400}, {301, 3, 301, 400}, {349, 3, 349, 400},
		{350, 5, 350, 400}, {351, 5, 351, 400}, {399, 5, 399, 400},
		{400, 5, 400, 400}, {401, 5, 401, 401}, {900, 5, 900, 900}, {math.MaxInt, 5, math.MaxInt, math.MaxInt},
	} {
		x, y := grown(t), grown(t)
		x.trims(c.lsn, c.forgotten, 7-c.forgotten)
		x.spans(c.begin, c.last)
		kept := []int{c.begin, c.begin + (math.MaxInt-c.begin)/2, math.MaxInt}
		for lsn := c.begin; lsn < 1000; lsn++ {
			kept = append(kept, lsn)
		}
		got, want := telling(x.h, upTo(6), kept), telling(y.h, upTo(6), kept)
		for i := range want {
			if got[i] != want[i] {
				t.Errorf("behind Trim(%d): %s, want %s", c.lsn, got[i], want[i])
			}
		}
		for lsn := range min(c.begin, 1000) {
			x.unknown(lsn)
			x.none(4, lsn)
		}
	}
}

// TestT4Twice: one Trim behind the other; none is done twice, and none goes back.
func TestT4Twice(t *testing.T) {
	x := grown(t)
	for _, c := range []struct{ lsn, forgotten, left int }{{100, 0, 7}, {150, 0, 7}, {150, 0, 7}, {200, 1, 6}, {200, 0, 6}, {150, 0, 6}, {100, 0, 6}, {math.MinInt, 0, 6}, {299, 0, 6}, {300, 2, 4}, {300, 0, 4}, {301, 0, 4}, {350, 2, 2}, {350, 0, 2}, {400, 0, 2}, {400, 0, 2}, {401, 0, 2}, {1000, 0, 2}, {1000, 0, 2}, {999, 0, 2}} {
		x.trims(c.lsn, c.forgotten, c.left)
	}
	x.spans(1000, 1000)
	x.lists(1000, table(1, 3), table(4, 1))
	for _, step := range []int{1, 2, 3, 7, 50, 51, 100} { // however it is divided, it is the same in all
		y := grown(t)
		sum := 0
		for lsn := 100; lsn <= 500; lsn += step {
			sum += y.h.Trim(lsn)
		}
		if sum+y.h.Trim(500) != 5 || y.h.Noted() != 2 {
			t.Errorf("by steps of %d: %d notes are left", step, y.h.Noted())
		}
	}
}

// TestT4GoneAtTheBeginning: a note that says gone is forgotten at its very position, a later one of the same number is kept.
func TestT4GoneAtTheBeginning(t *testing.T) {
	x := begun(t, 10, table(1, 1))
	x.gone(20, 1)
	x.put(30, table(1, 2))
	x.gone(40, 1)
	x.trims(19, 0, 4)
	x.trims(20, 2, 2)
	x.lists(20)
	x.none(1, 20, 29)
	x.at(table(1, 2), 30, 39)
	x.none(1, 40, 41)
	x.trims(29, 0, 2)
	x.trims(30, 0, 2)
	x.at(table(1, 2), 30, 39)
	x.trims(40, 2, 0)
	x.none(1, 39, 40, 41)
	x.lists(40)
	x.goes(41, 1, api.ErrHistoryNone)
	x.put(41, table(1, 3))
	x.at(table(1, 3), 41, 42)
	x.none(1, 40)
	x.noted(1)
}

// TestT4NotesAboveIt: a number all of whose notes are above the new beginning keeps all of them.
func TestT4NotesAboveIt(t *testing.T) {
	x := begun(t, 10)
	x.put(20, table(1, 1))
	x.gone(30, 1)
	x.put(40, table(2, 1))
	x.put(50, table(2, 2))
	x.trims(11, 0, 4)
	x.trims(19, 0, 4)
	x.none(1, 19)
	x.at(table(1, 1), 20, 29)
	x.trims(39, 2, 2)
	x.lists(39)
	x.at(table(2, 1), 40, 49)
	x.at(table(2, 2), 50)
}

// TestT4AboveTheLastPosition: then it is the last position, too.
func TestT4AboveTheLastPosition(t *testing.T) {
	x := grown(t)
	x.trims(1000, 5, 2)
	x.spans(1000, 1000)
	x.puts(401, table(1, 4), api.ErrHistoryOrder)
	x.puts(999, table(1, 4), api.ErrHistoryOrder)
	x.puts(1000, table(1, 4), api.ErrHistoryOrder)
	x.goes(401, 1, api.ErrHistoryOrder)
	x.goes(1000, 1, api.ErrHistoryOrder)
	x.goes(1000, 2, api.ErrHistoryOrder)
	x.noted(2)
	x.put(1001, table(1, 4))
	x.spans(1000, 1001)
	x.gone(1002, 4)
	x.goes(1003, 2, api.ErrHistoryNone) // of it all is forgotten
	x.put(1003, table(2, 2))
	x.gone(1004, 1)
	x.lists(1000, table(1, 3), table(4, 1))
	x.lists(1001, table(1, 4), table(4, 1))
	x.lists(1002, table(1, 4))
	x.lists(1003, table(1, 4), table(2, 2))
	x.lists(1004, table(2, 2))
	x.noted(6)
	x.trims(1004, 5, 1)
	x.lists(1004, table(2, 2))
}

// TestT4UpToTheLastPosition: that stays where it is.
func TestT4UpToTheLastPosition(t *testing.T) {
	for _, lsn := range []int{399, 400} {
		x := grown(t)
		x.trims(lsn, 5, 2)
		x.spans(lsn, 400)
		x.puts(400, table(1, 4), api.ErrHistoryOrder)
		x.put(401, table(1, 4))
		x.at(table(1, 3), 400)
		x.at(table(1, 4), 401)
		x.noted(3)
	}
}

// TestT4OfNothing: a history without notes begins later all the same.
func TestT4OfNothing(t *testing.T) {
	x := begun(t, 1)
	x.trims(1, 0, 0)
	x.spans(1, 1)
	x.trims(50, 0, 0)
	x.spans(50, 50)
	x.lists(50)
	x.puts(50, table(1, 1), api.ErrHistoryOrder)
	x.put(51, table(1, 1))
	x.lists(51, table(1, 1))
	x.trims(math.MaxInt, 0, 1)
	x.spans(math.MaxInt, math.MaxInt)
	x.puts(math.MaxInt, table(1, 2), api.ErrHistoryOrder)
	x.lists(math.MaxInt, table(1, 1))
}

// TestT4Refused: a Trim that does nothing changes nothing.
func TestT4Refused(t *testing.T) {
	x := grown(t)
	x.trims(200, 1, 6)
	x.unchanged("Trim", func() {
		for _, lsn := range []int{200, 199, 100, 1, 0, -1, math.MinInt} {
			x.trims(lsn, 0, 6)
			x.spans(200, 400)
		}
	})
}

// TestT4ManyOfOneNumber: what is forgotten, and what is noted behind it, over and over.
func TestT4ManyOfOneNumber(t *testing.T) {
	x := begun(t, 1, table(1, 1))
	lsn := 1
	for round := range 30 {
		for i := range 1 + round%4 {
			lsn += 10
			x.put(lsn, table(1, 2+i))
		}
		x.noted(2 + round%4)
		x.trims(lsn, 1+round%4, 1)
		x.at(table(1, 2+round%4), lsn, lsn+9)
		x.none(1, lsn-1)
		x.spans(lsn, lsn)
	}
	for round := range 30 {
		lsn += 10
		x.gone(lsn, 1)
		x.trims(lsn, 2, 0)
		x.lists(lsn)
		x.goes(lsn+1, 1, api.ErrHistoryNone)
		lsn += 10
		x.put(lsn, table(1, 5+round))
		x.noted(1)
		x.at(table(1, 5+round), lsn)
		x.none(1, lsn-1)
	}
}

// TestT4Noted: behind each call, whether it was done or refused.
func TestT4Noted(t *testing.T) {
	x := begun(t, 10, tables(1, 2, 3)...)
	for i, c := range []struct {
		call func()
		want int
	}{
		{func() { x.put(11, table(1, 2)) }, 4},
		{func() { x.puts(11, table(1, 3), api.ErrHistoryOrder) }, 4},
		{func() { x.puts(12, api.Table{}, api.ErrArg) }, 4},
		{func() { x.put(12, table(4, 1)) }, 5},
		{func() { x.gone(13, 2) }, 6},
		{func() { x.goes(14, 2, api.ErrHistoryNone) }, 6},
		{func() { x.goes(13, 1, api.ErrHistoryOrder) }, 6},
		{func() { x.none(2, 13) }, 6},
		{func() { x.h.List(13) }, 6},
		{func() { x.put(14, table(2, 2)) }, 7},
		{func() { x.h.Trim(10) }, 7},
		{func() { x.h.Trim(11) }, 6},
		{func() { x.h.Trim(12) }, 6},
		{func() { x.h.Trim(13) }, 4},
		{func() { x.h.Trim(99) }, 4},
		{func() { x.puts(99, table(5, 1), api.ErrHistoryOrder) }, 4},
		{func() { x.gone(100, 3) }, 5},
		{func() { x.h.Trim(100) }, 3},
	} {
		c.call()
		if n := x.h.Noted(); n != c.want {
			t.Errorf("behind the call %d: %d notes, want %d", i, n, c.want)
		}
	}
	x.lists(100, table(1, 2), table(2, 2), table(4, 1))
}

// TestT4ManyNumbers: each is trimmed by its own notes.
func TestT4ManyNumbers(t *testing.T) {
	x := begun(t, 1)
	for n := 1; n <= 300; n++ {
		x.put(10*n, table(n, 1))
		x.put(10*n+3, table(n, 2))
		if n%3 == 0 {
			x.gone(10*n+6, n)
		}
	}
	x.noted(700)
	x.trims(10*150+5, 150+2*49, 700-150-2*49)
	for n := 1; n <= 300; n++ {
		what := fmt.Sprint("the number ", n)
		switch {
		case n < 150 && n%3 == 0:
			x.none(n, 1505, 9999)
		case n <= 150:
			x.at(table(n, 2), 1505)
		default:
			x.none(n, 1505, 10*n-1)
			x.at(table(n, 1), 10*n)
			x.at(table(n, 2), 10*n+3)
		}
		if t.Failed() {
			t.Fatal(what)
		}
	}
}
