package history_test

import (
	"fmt"
	"math"
	"slices"
	"testing"

	"confluence/api"
	"confluence/history"
)

// never is the number of a table that no test but those of all numbers notes.
const never = 77777

var (
	id   = api.Column{Name: "id", Kind: api.Int}
	flag = api.Column{Name: "flag", Kind: api.Bool, Null: true}
)

// table is a right one; of another number or version it has another name and other columns.
func table(number, version int) api.Table {
	l := []api.Column{{Name: fmt.Sprint("k", number), Kind: api.Int + version%2}, flag}
	for i := range version % 7 {
		l = append(l, api.Column{Name: fmt.Sprint("c", i), Kind: 1 + (number+i)%3, Null: true})
	}
	return api.Table{ID: number, Version: version, Name: fmt.Sprint("t", number, "_", version), Columns: l}
}

// tables have these numbers, and the version 1.
func tables(numbers ...int) []api.Table {
	var l []api.Table
	for _, n := range numbers {
		l = append(l, table(n, 1))
	}
	return l
}

// noTables are not right, each for one reason alone; all of them have a number, but for the first ones.
func noTables() map[string]api.Table {
	with := func(spoil func(*api.Table)) api.Table {
		t := table(5, 1)
		spoil(&t)
		return t
	}
	return map[string]api.Table{
		"no number":               with(func(t *api.Table) { t.ID = 0 }),
		"a number below 0":        with(func(t *api.Table) { t.ID = -1 }),
		"a number too great":      with(func(t *api.Table) { t.ID = api.MaxXid + 1 }),
		"the least number of all": with(func(t *api.Table) { t.ID = math.MinInt }),
		"the greatest of all":     with(func(t *api.Table) { t.ID = math.MaxInt }),
		"no version":              with(func(t *api.Table) { t.Version = 0 }),
		"a version too great":     with(func(t *api.Table) { t.Version = api.MaxXid + 1 }),
		"no name":                 with(func(t *api.Table) { t.Name = "" }),
		"a name that is none":     with(func(t *api.Table) { t.Name = "T" }),
		"no columns":              with(func(t *api.Table) { t.Columns = nil }),
		"an empty list":           with(func(t *api.Table) { t.Columns = []api.Column{} }),
		"nine columns":            with(func(t *api.Table) { t.Columns = slices.Repeat([]api.Column{id}, 9) }),
		"a column twice":          with(func(t *api.Table) { t.Columns = []api.Column{id, id} }),
		"a column of no kind":     with(func(t *api.Table) { t.Columns[1].Kind = 9 }),
		"a column without a name": with(func(t *api.Table) { t.Columns[1].Name = "" }),
		"no such key":             with(func(t *api.Table) { t.Key = len(t.Columns) }),
		"a key below 0":           with(func(t *api.Table) { t.Key = -1 }),
		"a key that may be null":  with(func(t *api.Table) { t.Columns[0].Null = true }),
		"a key that is a Bool":    with(func(t *api.Table) { t.Columns[0].Kind = api.Bool }),
		"nothing at all":          {},
	}
}

// same tells whether two tables are the same in all.
func same(a, b api.Table) bool {
	return a.ID == b.ID && a.Version == b.Version && a.Name == b.Name && a.Key == b.Key && slices.Equal(a.Columns, b.Columns)
}

func isZero(t api.Table) bool { return same(t, api.Table{}) && t.Columns == nil }

func is(t *testing.T, what string, got, want api.Errno) {
	t.Helper()
	if got != want {
		t.Errorf("%s: %d, want %d", what, got, want)
	}
}

// bench is a history that is asked, and held against what it should answer.
type bench struct {
	t *testing.T
	h *history.History
}

func begun(t *testing.T, lsn int, l ...api.Table) *bench {
	t.Helper()
	h, e := history.New(l, lsn)
	if h == nil || e != api.OK {
		t.Fatalf("New of %d tables at %d: %v, %d", len(l), lsn, h, e)
	}
	return &bench{t, h}
}

func (x *bench) put(lsn int, t api.Table) {
	x.t.Helper()
	x.puts(lsn, t, api.OK)
}

func (x *bench) puts(lsn int, t api.Table, want api.Errno) {
	x.t.Helper()
	is(x.t, fmt.Sprintf("Put(%d, %+v)", lsn, t), x.h.Put(lsn, t), want)
}

func (x *bench) gone(lsn, number int) {
	x.t.Helper()
	x.goes(lsn, number, api.OK)
}

func (x *bench) goes(lsn, number int, want api.Errno) {
	x.t.Helper()
	is(x.t, fmt.Sprintf("Gone(%d, %d)", lsn, number), x.h.Gone(lsn, number), want)
}

// at holds that the table was so at each of these positions.
func (x *bench) at(want api.Table, lsns ...int) {
	x.t.Helper()
	for _, lsn := range lsns {
		if t, e := x.h.At(lsn, want.ID); e != api.OK || !same(t, want) {
			x.t.Errorf("At(%d, %d): %+v, %d, want %+v", lsn, want.ID, t, e, want)
		}
	}
}

// none holds that of this number nothing is told at each of these positions.
func (x *bench) none(number int, lsns ...int) {
	x.t.Helper()
	for _, lsn := range lsns {
		if t, e := x.h.At(lsn, number); e != api.ErrHistoryNone || !isZero(t) {
			x.t.Errorf("At(%d, %d): %+v, %d, want none", lsn, number, t, e)
		}
	}
}

func (x *bench) lists(lsn int, want ...api.Table) {
	x.t.Helper()
	if l, e := x.h.List(lsn); e != api.OK || !slices.EqualFunc(l, want, same) {
		x.t.Errorf("List(%d): %+v, %d, want %+v", lsn, l, e, want)
	}
}

// unknown holds that no list is told of each of these positions.
func (x *bench) unknown(lsns ...int) {
	x.t.Helper()
	for _, lsn := range lsns {
		if l, e := x.h.List(lsn); e != api.ErrHistoryNone || len(l) > 0 {
			x.t.Errorf("List(%d): %+v, %d, want none", lsn, l, e)
		}
	}
}

// trims holds how many notes a Trim forgets, and how many are left.
func (x *bench) trims(lsn, forgotten, left int) {
	x.t.Helper()
	if n := x.h.Trim(lsn); n != forgotten {
		x.t.Errorf("Trim(%d): %d, want %d", lsn, n, forgotten)
	}
	x.noted(left)
}

func (x *bench) noted(want int) {
	x.t.Helper()
	if n := x.h.Noted(); n != want {
		x.t.Errorf("Noted: %d, want %d", n, want)
	}
}

// spans holds where the history begins, and its last position, by calls that are refused or change nothing.
func (x *bench) spans(begin, last int) {
	x.t.Helper()
	if _, e := x.h.List(begin); e != api.OK {
		x.t.Errorf("List(%d), the beginning: %d", begin, e)
	}
	x.unknown(begin-1, 0, -1, math.MinInt)
	for _, lsn := range []int{last, last - 1, begin, 0, math.MinInt} {
		x.goes(lsn, never, api.ErrHistoryOrder)
	}
	if last < math.MaxInt {
		x.goes(last+1, never, api.ErrHistoryNone)
		x.goes(math.MaxInt, never, api.ErrHistoryNone)
	}
}

// telling is all that At and List tell of these numbers at these positions.
func telling(h *history.History, numbers, lsns []int) []string {
	var out []string
	for _, lsn := range lsns {
		l, e := h.List(lsn)
		out = append(out, fmt.Sprintf("at %d: %+v %d", lsn, l, e))
		for _, n := range numbers {
			t, e := h.At(lsn, n)
			out = append(out, fmt.Sprintf("at %d, of %d: %+v %d", lsn, n, t, e))
		}
	}
	return out
}

// upTo are the numbers from 0 on.
func upTo(n int) []int {
	var l []int
	for i := range n + 1 {
		l = append(l, i)
	}
	return l
}

// unchanged holds that a call changes nothing that is told of the positions up to 1000 and the numbers up to 12.
func (x *bench) unchanged(what string, call func()) {
	x.t.Helper()
	told, noted := telling(x.h, upTo(12), upTo(1000)), x.h.Noted()
	call()
	if !slices.Equal(telling(x.h, upTo(12), upTo(1000)), told) || x.h.Noted() != noted {
		x.t.Errorf("%s changed what is told", what)
	}
}
