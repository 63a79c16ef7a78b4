package slot_test

import (
	"fmt"
	"reflect"
	"slices"
	"sync"
	"testing"

	"confluence/api"
	"confluence/files"
	"confluence/slot"
)

// roomy is a slot whose lists have room behind them, in which something stands; whole tells all of that memory.
func roomy(name string, confirmed, restart int) (x api.Slot, whole func() []any) {
	columns := []string{"a", "b", "mine", "mine"}
	more := []string{"mine", "mine"}
	tables := []api.Published{{Table: "t", Kinds: 15, Columns: columns[:2], Filter: "n > 1"}, {Table: "u", Kinds: 1, Columns: more[:0]}, {Table: "mine"}, {Table: "mine", Columns: []string{"mine"}}}
	x = api.Slot{Name: name, Publication: api.Publication{Name: "p", Tables: tables[:2]}, Confirmed: confirmed, Restart: restart}
	return x, func() []any { return []any{columns, more, tables} }
}

// TestHandedInIsLeft: neither the lists nor the room behind them are written into, be the slot taken or refused.
func TestHandedInIsLeft(t *testing.T) {
	_, untouched := roomy("a", 9000, first)
	for _, capacity := range []int{room, 10} {
		for _, arm := range []int{0, 1, 2, 3, 4, 5} {
			for _, n := range []int{0, 3, 8} {
				d, s := begun(t, max(capacity, len(fileOf(some(n)...))), some(n)...)
				is(t, "Arm", d.Arm(arm), api.OK)
				for _, name := range []string{"a", "A", "c", "a", "zz"} {
					x, whole := roomy(name, 9000, first)
					for _, confirmed := range []int{9000, 0} {
						x.Confirmed = confirmed
						s.Create(x)
						s.List()
						s.Get(name)
						s.Advance(name, 9001, 9000)
						s.Drop(name)
						s.Create(x)
					}
					if !reflect.DeepEqual(whole(), untouched()) {
						t.Fatalf("Create(%q): the memory is %v now", name, whole())
					}
				}
			}
		}
	}
}

// TestWrongIsLeft: a publication that is refused is not written into.
func TestWrongIsLeft(t *testing.T) {
	_, s := begun(t, room)
	for i, p := range wrongPublications() {
		s.Create(api.Slot{Name: "a", Publication: p, Confirmed: 9000, Restart: first})
		if !reflect.DeepEqual(p, wrongPublications()[i]) {
			t.Errorf("the publication is %+v now", p)
		}
	}
}

// spoil writes over all lists of a slot, and all the room behind them.
func spoil(x *api.Slot) {
	tables := x.Publication.Tables[:cap(x.Publication.Tables)]
	for i := range tables {
		columns := tables[i].Columns[:cap(tables[i].Columns)]
		for k := range columns {
			columns[k] = "spoilt"
		}
		tables[i] = api.Published{Table: "spoilt", Kinds: -1, Filter: "spoilt"}
	}
	*x = api.Slot{Name: "spoilt"}
}

// TestHandedInIsNotKept: what is written over behind a Create changes nothing of what is told, nor of what is written later.
func TestHandedInIsNotKept(t *testing.T) {
	d, s := begun(t, room)
	var want []api.Slot
	for i := range 8 {
		name := string(rune('h' - i))
		x, _ := roomy(name, 9000+i, first+i)
		copied, _ := roomy(name, 9000+i, first+i)
		want = slices.Insert(want, 0, copied)
		is(t, "Create", s.Create(x), api.OK)
		spoil(&x)
		knows(t, s, want...)
		finds(t, d, want...)
	}
	want = with(want, 3, 20000, 10000)
	is(t, "Advance", s.Advance(want[3].Name, 20000, 10000), api.OK)
	is(t, "Drop", s.Drop(want[0].Name), api.OK)
	knows(t, s, want[1:]...)
	finds(t, d, want[1:]...)
	holds(t, d, slotsFile(fileOf(want[1:]...)))
}

// TestHandedInAndRefused: nor is one kept that could not be written, for the time when it can be.
func TestHandedInAndRefused(t *testing.T) {
	d, s := begun(t, room)
	x, _ := roomy("a", 9000, first)
	is(t, "FailSync", d.FailSync(1), api.OK)
	is(t, "Create", s.Create(x), api.ErrFileSync)
	spoil(&x)
	y := one("b", 9000, first)
	is(t, "Create", s.Create(y), api.OK)
	knows(t, s, y)
	finds(t, d, y)
}

// TestOneListManyTimes: slots and tables that were handed in with one list come out with lists of their own.
func TestOneListManyTimes(t *testing.T) {
	columns := []string{"a", "b", "c"}
	tables := []api.Published{{Table: "t", Kinds: 1, Columns: columns}, {Table: "u", Kinds: 2, Columns: columns}}
	p := api.Publication{Name: "p", Tables: tables}
	var want []api.Slot
	d, s := begun(t, room)
	for _, name := range []string{"a", "b", "c"} {
		x := api.Slot{Name: name, Publication: p, Confirmed: 9000, Restart: first}
		want = append(want, api.Slot{Name: name, Publication: api.Publication{Name: "p", Tables: []api.Published{{Table: "t", Kinds: 1, Columns: []string{"a", "b", "c"}}, {Table: "u", Kinds: 2, Columns: []string{"a", "b", "c"}}}}, Confirmed: 9000, Restart: first})
		is(t, "Create", s.Create(x), api.OK)
	}
	for _, s := range []*slot.Slots{s, opened(t, d)} {
		l := s.List()
		l[0].Publication.Tables[0].Columns[0] = "spoilt"
		if got := l[0].Publication.Tables[1].Columns; !slices.Equal(got, columns) {
			t.Errorf("the columns of one table hang on those of another: %v", got)
		}
		spoil(&l[0])
		if !sameAll(l[1:], want[1:]) {
			t.Errorf("the other slots are %+v", l[1:])
		}
		knows(t, s, want...)
	}
}

// TestOutIsNew: each slot that comes out is written over, with its room; nothing that is told hangs on it, nor what came out elsewhere.
func TestOutIsNew(t *testing.T) {
	for n := range 9 {
		want := some(n)
		created, s := begun(t, room)
		for _, x := range want {
			is(t, "Create", s.Create(x), api.OK)
		}
		for _, s := range []*slot.Slots{s, opened(t, created)} {
			a, b := s.List(), s.List()
			var got []api.Slot
			for _, x := range want {
				y, _ := s.Get(x.Name)
				got = append(got, y)
			}
			for i := range a {
				spoil(&a[i])
				if !sameAll(a[i+1:], want[i+1:]) {
					t.Errorf("slots of one list hang on one another: %+v", a)
				}
			}
			a = append(a[:0], slices.Repeat([]api.Slot{{Name: "spoilt"}}, cap(a))...)
			if !sameAll(b, want) || !sameAll(got, want) {
				t.Errorf("what came out elsewhere is %+v, %+v", b, got)
			}
			for _, x := range want {
				y, _ := s.Get(x.Name)
				spoil(&y)
			}
			knows(t, s, want...)
			if !sameAll(b, want) || !sameAll(got, want) {
				t.Errorf("what came out elsewhere is %+v, %+v", b, got)
			}
		}
	}
}

// TestOutStays: what came out stays as it was, whatever is called behind it.
func TestOutStays(t *testing.T) {
	_, s := begun(t, room, some(4)...)
	l := s.List()
	x, _ := s.Get("c")
	is(t, "Advance", s.Advance("c", 100000, 50000), api.OK)
	is(t, "Drop", s.Drop("b"), api.OK)
	is(t, "Create", s.Create(one("a", first, first)), api.OK)
	is(t, "Drop", s.Drop("d"), api.OK)
	if !sameAll(l, some(4)) || !same(x, some(4)[1]) {
		t.Errorf("what came out is %+v, %+v", l, x)
	}
}

// TestTwoDisks: slots of two disks, called between one another, have nothing to do with one another.
func TestTwoDisks(t *testing.T) {
	da, a := begun(t, room)
	db, b := begun(t, room, some(2)...)
	is(t, "Create", a.Create(one("a", 9000, first)), api.OK)
	knows(t, b, some(2)...)
	is(t, "Create", b.Create(one("a", 20000, 10000)), api.OK)
	is(t, "Advance", a.Advance("a", 9500, 9400), api.OK)
	is(t, "Drop", b.Drop("b"), api.OK)
	kill(t, da)
	is(t, "Drop of the dead one", a.Drop("a"), api.ErrDead)
	is(t, "Advance of the other", b.Advance("a", 30000, 10000), api.OK)
	knows(t, a, one("a", 9500, 9400))
	knows(t, b, one("a", 30000, 10000), some(2)[1])
	revive(t, da)
	finds(t, da, one("a", 9500, 9400))
	finds(t, db, one("a", 30000, 10000), some(2)[1])
}

// TestOwnDisks: slots on disks of their own, at a time.
func TestOwnDisks(t *testing.T) {
	var all sync.WaitGroup
	for n := range 8 {
		all.Add(1)
		go func() {
			defer all.Done()
			d, _ := files.New(room)
			s, _ := slot.Open(d)
			for k := range 100 {
				name := fmt.Sprint("s", k%5)
				s.Create(one(name, 9000+n, 9000))
				if e := s.Advance(name, 9100+n+k, 9050); e != api.OK {
					t.Errorf("Advance: %d", e)
				}
				if x, e := s.Get(name); e != api.OK || x.Confirmed != 9100+n+k {
					t.Errorf("Get: %+v, %d", x, e)
				}
				if k%7 == 0 && s.Drop(name) != api.OK {
					t.Error("Drop")
				}
			}
			u, e := slot.Open(d)
			if e != api.OK || !sameAll(u.List(), s.List()) {
				t.Errorf("Open: %d", e)
			}
		}()
	}
	all.Wait()
}
