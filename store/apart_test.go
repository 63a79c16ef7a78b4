package store_test

import (
	"fmt"
	"slices"
	"strings"
	"sync"
	"testing"

	"confluence/api"
	"confluence/store"
)

// roomy is a list with room behind it, which is not empty.
func roomy(l api.Row) api.Row {
	out := make(api.Row, len(l)+3)
	copy(out, l)
	for i := len(l); i < len(out); i++ {
		out[i] = v(fmt.Sprint("room", i))
	}
	return out[:len(l)]
}

// spoil writes over a row, its room too.
func spoil(r api.Row) {
	r = r[:cap(r)]
	for i := range r {
		r[i] = v("spoilt")
	}
}

func TestHandedInIsLeft(t *testing.T) {
	k := newDesk(t)
	k.put(1, "a")
	x := k.begin()
	for _, row := range []api.Row{r(2, "b"), r(3), r(1, "c"), r(), r("x", "y"), r(9, nil, nil)} {
		row = roomy(row)
		was := slices.Clone(row[:cap(row)])
		k.s.Insert(x, "t", row)
		k.s.Update(x, "t", row)
		k.s.Insert(99, "t", row)
		k.s.Update(x, "none", row)
		if !slices.Equal(row[:cap(row)], was) {
			t.Errorf("a row that was handed in is %v, was %v", row[:cap(row)], was)
		}
	}
	columns := append(slices.Clone(two), more, more)[:2]
	was := slices.Clone(columns[:4])
	_, e := k.s.CreateTable("u", columns, 0)
	k.ok(e)
	k.s.CreateTable("u", columns, 0)
	_, e = k.s.WidenTable("u", more)
	k.ok(e)
	if !slices.Equal(columns[:4], was) {
		t.Errorf("columns that were handed in are %v, were %v", columns[:4], was)
	}
}

func TestHandedInIsNotKept(t *testing.T) {
	k := newDesk(t)
	x := k.begin()
	row := roomy(r(1, "a"))
	k.ok(k.s.Insert(x, "t", row))
	spoil(row)
	k.sees(x, "(1, 'a')")
	row = roomy(r(1))
	k.ok(k.s.Update(x, "t", row))
	spoil(row)
	k.sees(x, "(1, null)")
	columns := slices.Clone(two)
	_, e := k.s.CreateTable("u", columns, 0)
	k.ok(e)
	columns[0] = api.Column{Name: "other", Kind: api.Bool}
	k.is("Tables", k.told(), "t 1.1 (id int, name text null) key id; u 2.1 (id int, name text null) key id; ")
	k.ok(k.s.Insert(x, "u", r(5)))
	k.commit(x)
	_, e = k.s.Checkpoint()
	k.ok(e)
	k.crash()
	k.sees(0, "(1, null)")
	k.is("Tables", k.told(), "t 1.1 (id int, name text null) key id; u 2.1 (id int, name text null) key id; ")
}

// TestListsAreNew: what comes out is written over, and nothing that is told hangs on it.
func TestListsAreNew(t *testing.T) {
	k := busy(t)
	was, own, tabs := k.picture(), k.rows(13, "t"), k.told()
	for _, x := range []int{0, 13, 15} {
		one, _ := k.s.Get(x, "t", v(2))
		two, _ := k.s.Get(x, "t", v(2))
		spoil(one)
		k.is("another row of Get", rowText(two), "(2, 'y', true)")
		var all []api.Row
		for row := range k.s.Scan(x, "t") {
			all = append(all, row)
		}
		for i, row := range all {
			spoil(row)
			for _, other := range all[i+1:] {
				if other[0] == v("spoilt") {
					t.Error("two rows of one Scan are the same memory")
				}
			}
		}
	}
	for _, l := range k.s.Tables() {
		for i := range l.Columns[:cap(l.Columns)] {
			l.Columns[:cap(l.Columns)][i] = api.Column{Name: "spoilt"}
		}
	}
	tables := k.s.Tables()
	tables[0].Name, tables[0].ID = "spoilt", 9
	clear(k.s.Prepared())
	clear(k.s.Active())
	k.is("the picture", k.picture(), was)
	k.is("one's own", k.rows(13, "t"), own)
	k.is("Active", k.s.Active(), []int{13, 15})
	k.commit(13)
	k.crash()
	k.is("Tables", k.told(), tabs)
}

// TestTwoStores: what is done to one is not seen in the other, nor by its doubt.
func TestTwoStores(t *testing.T) {
	a, b := busy(t), busy(t)
	was, log := b.picture(), bytesOf(t, b.d)
	a.commit(13)
	_, e := a.s.CommitPrepared("w")
	a.ok(e)
	_, e = a.s.DropTable("v")
	a.ok(e)
	x := a.begin()
	_, e = a.s.CommitFrom(x, "new", 5)
	a.ok(e)
	a.ok(a.d.Arm(1))
	a.is("Abort", a.s.Abort(15), api.ErrDead)
	b.is("the other's picture", b.picture(), was)
	b.is("the other's Doubt", b.s.Doubt(), false)
	if got := bytesOf(t, b.d); !slices.Equal(got, log) {
		t.Errorf("the other's files are %q", got)
	}
	b.ok(b.s.Insert(13, "t", r(99)))
	b.is("Begin", b.begin(), 17)
}

// TestSideBySide: several read one store, and each of several works on one of its own.
func TestSideBySide(t *testing.T) {
	k := busy(t)
	was := k.picture()
	var all sync.WaitGroup
	for n := range 8 {
		all.Go(func() {
			for range 20 {
				if got := k.picture(); got != was {
					t.Errorf("one of several who read: %s", got)
				}
				k.get(13, "t", 2)
				k.s.Active()
				k.s.Based()
			}
		})
		all.Go(func() {
			d := newDisk(t, room)
			if e := store.Format(d); e != api.OK {
				t.Errorf("Format: %d", e)
				return
			}
			s, _ := store.Open(d)
			s.CreateTable("t", two, 0)
			for i := range 30 {
				x, _ := s.Begin()
				s.Insert(x, "t", r(i, fmt.Sprint(n)))
				s.Commit(x)
			}
			i := 0
			for row := range s.Scan(0, "t") {
				if got, want := rowText(row), fmt.Sprintf("(%d, '%d')", i, n); got != want {
					t.Errorf("one of several stores has %s, want %s", got, want)
				}
				i++
			}
		})
	}
	all.Wait()
}

// TestGreat: many rows, many transactions, in little time; and all of it again of a base and of a log.
func TestGreat(t *testing.T) {
	const n = 3000
	k := newDesk(t)
	long := strings.Repeat("x", 100)
	for i := range n {
		x := k.begin()
		for j := range 3 {
			k.ok(k.s.Insert(x, "t", r(i*3+j, long)))
		}
		if i%2 == 0 {
			k.commit(x)
		} else {
			k.ok(k.s.Abort(x))
		}
	}
	count := func() int {
		c := 0
		for range k.s.Scan(0, "t") {
			c++
		}
		return c
	}
	k.is("rows", count(), n/2*3)
	k.crashKeeping()
	k.is("rows", count(), n/2*3)
	_, e := k.s.Checkpoint()
	k.ok(e)
	removed, e := k.s.Trim(lastPosition)
	k.ok(e)
	if removed < 100 {
		t.Errorf("Trim: %d", removed)
	}
	k.crash()
	k.is("rows", count(), n/2*3)
	// one row, many times
	for i := range n {
		x := k.begin()
		k.ok(k.s.Update(x, "t", r(0, fmt.Sprint(i))))
		k.commit(x)
	}
	k.is("Get", k.get(0, "t", 0), fmt.Sprintf("(0, '%d')", n-1))
	k.crash()
	k.is("Get", k.get(0, "t", 0), fmt.Sprintf("(0, '%d')", n-1))
}
