package mvcc_test

import (
	"fmt"
	"slices"
	"sync"
	"testing"

	"confluence/api"
	"confluence/mvcc"
	"confluence/xact"
)

// TestHandedInIsLeft: rows and snapshots that are handed in are not written into, nor their room, whatever the call answers.
func TestHandedInIsLeft(t *testing.T) {
	d := newDesk(t)
	a, b := d.begin(), d.begin()
	whole := []int{9, 2, 1, -3, 77, 77}
	s := api.Snapshot{Min: 1, Max: 3, Open: whole[:4]}
	r := full(api.Row{{Kind: api.Int, N: 5}, {Kind: api.Text, S: "a"}})
	was := slices.Clone(r[:cap(r)])
	for _, w := range []who{d.with(s, a.x), d.with(s, b.x), d.with(s, 0)} {
		d.h.Insert(w.s, w.x, 7, "k", r)
		d.h.Update(w.s, w.x, 7, "k", r)
		d.h.Update(w.s, w.x, 7, "q", r)
		d.h.Get(w.s, w.x, 7, "k")
		for _, r := range d.h.Scan(w.s, w.x, 7) {
			spoil(r)
		}
		d.h.Delete(w.s, w.x, 7, "k")
	}
	if !slices.Equal(r[:cap(r)], was) {
		t.Errorf("the row that was handed in: %v", r[:cap(r)])
	}
	if !slices.Equal(whole, []int{9, 2, 1, -3, 77, 77}) {
		t.Errorf("the list of the snapshot that was handed in: %v", whole)
	}
}

// TestHandedInIsNotKept: a row is written over as soon as it was handed in, with its room.
func TestHandedInIsNotKept(t *testing.T) {
	d := newDesk(t)
	a := d.begin()
	r := full(row(1))
	d.ok(d.h.Insert(a.s, a.x, 7, "k", r))
	spoil(r)
	d.is("Get behind Insert", a.get("k"), "(1)")
	r = full(row(2))
	_, e := d.h.Update(a.s, a.x, 7, "k", r)
	d.ok(e)
	spoil(r)
	d.is("Get behind Update", a.get("k"), "(2)")
	d.is("Scan", a.scan(), `"k"(2)`)
	d.is("Delete", a.remove("k"), "(2)")
	// one row under several keys, each as it was then
	r = full(row(0))
	for i, key := range []string{"a", "b", "c"} {
		r[0].N = i
		d.ok(d.h.Insert(a.s, a.x, 7, key, r))
	}
	d.is("Scan", a.scan(), `"a"(0) "b"(1) "c"(2)`)
}

// TestRowsAreNew: each row that comes out is written over, with its room; nothing that is told hangs on it, nor another row that came out.
func TestRowsAreNew(t *testing.T) {
	d := newDesk(t)
	d.upon("a", 1)
	d.upon("b", 2)
	a := d.begin()
	a.lays("b", 3)
	looks := []who{a, d.begin(), d.with(all, 0)}
	was := d.picture(looks)
	for _, w := range looks {
		for _, key := range []string{"a", "b"} {
			one, _ := d.h.Get(w.s, w.x, 7, key)
			two, _ := d.h.Get(w.s, w.x, 7, key)
			want := rowText(two)
			spoil(one)
			d.is("another row of Get", rowText(two), want)
		}
		var rows []api.Row
		for range 2 {
			for _, r := range d.h.Scan(w.s, w.x, 7) {
				rows = append(rows, r)
			}
		}
		for i, r := range rows {
			want := rowText(rows[(i+1)%len(rows)])
			spoil(r)
			if i+1 < len(rows) {
				d.is("another row of Scan", rowText(rows[i+1]), want)
			}
		}
	}
	d.unchanged("writing over rows", was, looks)

	r, e := d.h.Update(a.s, a.x, 7, "a", row(4))
	d.ok(e)
	spoil(r)
	d.is("what Update was written upon", d.with(all, 0).get("a"), "(1)")
	r, e = d.h.Delete(a.s, a.x, 7, "a")
	d.ok(e)
	spoil(r)
	a.aborts()
	d.m.Forget(9)
	d.is("what stands again", d.with(all, 0).scan(), `"b"(3)`)
}

// TestOldRowIsNew: what Delete answers is not the version beneath, which is there again when the part is taken back.
func TestOldRowIsNew(t *testing.T) {
	d := newDesk(t)
	a := d.begin()
	a.lays("k", 1)
	for _, write := range []func(p who) api.Row{
		func(p who) api.Row { r, _ := d.h.Delete(p.s, p.x, 7, "k"); return r },
		func(p who) api.Row { r, _ := d.h.Update(p.s, p.x, 7, "k", row(2)); return r },
	} {
		p := a.part()
		r := write(p)
		d.is("the old row", rowText(r), "(1)")
		spoil(r)
		p.isBack()
		d.is("Get behind the part", a.get("k"), "(1)")
	}
}

// TestRowsStay: rows that came out stay as they are, whatever is done behind them.
func TestRowsStay(t *testing.T) {
	d := newDesk(t)
	d.upon("k", 1)
	d.upon("q", 2)
	a := d.begin()
	got, _ := d.h.Get(a.s, a.x, 7, "k")
	var scanned []api.Row
	for _, r := range d.h.Scan(a.s, a.x, 7) {
		scanned = append(scanned, r)
	}
	old, _ := d.h.Update(a.s, a.x, 7, "k", row(3))
	a.lays("k", 4, 0, 5)
	a.commits()
	d.h.Vacuum(nil)
	d.upon("k", 6)
	d.h.Empty(7)
	d.upon("k", 7)
	d.is("rows that came out", rowText(got)+rowText(old)+rowText(scanned[0])+rowText(scanned[1]), "(1)(1)(1)(2)")
}

// TestTwoHeaps: two over one manager, and one over another manager with the same numbers, do not touch one another.
func TestTwoHeaps(t *testing.T) {
	a := newDesk(t)
	b := &desk{t: t, m: a.m, h: mvcc.New(a.m)}
	c := newDesk(t)
	x, z := a.begin(), c.begin()
	y := b.with(x.s, x.x)
	a.is("Insert", x.insert("k", 1), "ok")
	a.is("Get in the other one", y.get("k")+z.get("k"), "nonenone")
	a.is("Insert in the other one", y.insert("k", 2), "ok")
	a.is("Insert in the third one", z.insert("k", 3), "ok")
	looks, was := []who{y, b.with(all, 0)}, ""
	x.commits()
	was = b.picture(looks)
	a.is("Update", a.begin().update("k", 4), "(1)")
	a.h.Empty(7)
	a.h.Vacuum(nil)
	a.versions("the first", 0)
	b.unchanged("what was done to the first", was, looks)
	b.versions("the second", 1)
	c.versions("the third", 1)
	a.is("the manager is one", b.with(all, 0).get("k"), "(2)")
	a.is("the other one is another", c.with(all, 0).get("k")+z.get("k"), "none(3)")
	b.written("the first's manager", 7, 0, false)
	c.written("the third's manager", 7, 0, true)
}

// TestSideBySide: heaps that are used at one time, and one that is only read by many at one time (for the race detector).
func TestSideBySide(t *testing.T) {
	d := newDesk(t)
	d.upon("a", 1, 2)
	d.upon("q", 3)
	open := d.begin()
	open.lays("a", 5)
	looks := []who{open, d.begin(), d.with(all, 0)}
	was := d.picture(looks)
	var w sync.WaitGroup
	for range 8 {
		w.Go(func() {
			m, _ := xact.New(1)
			h := mvcc.New(m)
			for i := range 500 {
				s := m.Snapshot()
				x, _ := m.Begin()
				h.Insert(s, x, 7, fmt.Sprint(i%50), row(i))
				h.Update(s, x, 7, fmt.Sprint(i%50), row(i))
				m.Commit(x)
				if i%100 == 99 {
					h.Vacuum([]api.Snapshot{m.Snapshot()})
				}
			}
			if h.Versions() != 50 {
				t.Errorf("Versions is %d", h.Versions())
			}
		})
		w.Go(func() {
			for range 20 {
				d.unchanged("what is only read", was, looks)
			}
		})
	}
	w.Wait()
}

// TestGreat: many rows, long chains, a Vacuum of all: each call is still at hand.
func TestGreat(t *testing.T) {
	const many = 100000
	d := newDesk(t)
	a := d.begin()
	for i := range many {
		d.ok(d.h.Insert(a.s, a.x, i%3, fmt.Sprint(i), row(i)))
	}
	a.commits()
	b := d.begin()
	b.lays("k", 1)
	for i := range many {
		d.is("Update", b.update("k", i+2), rowText(row(i+1)))
	}
	d.versions("all", 2*many+1)
	b.commits()
	old := d.begin()
	for i := range many {
		c := d.begin()
		d.ok(d.h.Insert(c.s, c.x, 8, "", nil))
		c.aborts()
		if i%1000 == 0 {
			d.h.Empty(8)
		}
	}
	d.h.Empty(8)
	d.vacuums("all but the newest", many, many+1, old.s, old.s, d.m.Snapshot())
	n := 0
	for range d.h.Scan(old.s, old.x, 2) {
		n++
	}
	if n != many/3 {
		t.Errorf("Scan: %d rows", n)
	}
}
