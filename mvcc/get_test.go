package mvcc_test

import (
	"math"
	"testing"

	"confluence/api"
)

// TestH1: a new heap tells nothing of any table, key or number, and nothing can be taken from it.
func TestH1(t *testing.T) {
	d := newDesk(t)
	a := d.begin()
	for _, table := range append([]int{7}, odd...) {
		for _, w := range []who{a, d.with(all, 0), d.with(nothing, -1), d.with(d.m.Snapshot(), math.MaxInt)} {
			for _, key := range []string{"", "k", "\x00", "\xff"} {
				d.is("Get", d.said(d.h.Get(w.s, w.x, table, key)), "none")
				d.is("Update", d.said(d.h.Update(w.s, w.x, table, key, row(1))), "none")
				d.is("Delete", d.said(d.h.Delete(w.s, w.x, table, key)), "none")
			}
			d.is("Scan", w.scanOf(table), "")
			d.written("of nothing", table, w.x, false)
		}
		d.h.Empty(table)
	}
	d.vacuums("of nothing", 0, 0)
	d.vacuums("of nothing", 0, 0, all, nothing, a.s)
}

// TestH2Place: a row is there under its own table and key alone: any number, any text.
func TestH2Place(t *testing.T) {
	keys := []string{"", "\x00", "a", "a\x00", "ab", "k", "\xff", "\xff\xff", "ключ"}
	tables := append([]int{7, 8}, odd...)
	d := newDesk(t)
	a := d.begin()
	for i, table := range tables {
		for j, key := range keys {
			if (i+j)%2 == 0 {
				d.ok(d.h.Insert(a.s, a.x, table, key, row(100*i+j)))
			}
		}
	}
	for i, table := range tables {
		for j, key := range keys {
			want := "none"
			if (i+j)%2 == 0 {
				want = rowText(row(100*i + j))
			}
			d.is("Get", d.said(d.h.Get(a.s, a.x, table, key)), want)
		}
	}
	d.versions("one each", (len(tables)*len(keys)+1)/2)
}

// TestH2Newest: each looks at the newest that it sees, whatever stands above that.
func TestH2Newest(t *testing.T) {
	d := newDesk(t)
	var looks []who
	for n := range 5 {
		looks = append(looks, d.begin())
		w := d.begin()
		if n == 0 {
			d.is("Insert", w.insert("k", 0), "ok")
		} else {
			d.is("Update", w.update("k", n), rowText(row(n-1)))
		}
		w.commits()
	}
	d.is("Get ahead of all", looks[0].get("k"), "none")
	for n := 1; n < 5; n++ {
		d.is("Get between", looks[n].get("k"), rowText(row(n-1)))
	}
	d.is("Get of the last", d.begin().get("k"), "(4)")
	d.is("Get of nobody", d.with(d.m.Snapshot(), 0).get("k"), "(4)")
	d.is("Get with an old snapshot", d.with(looks[2].s, 0).get("k"), "(1)")
}

// TestH2Gone: the newest that is seen is gone, with rows that are seen beneath it; above it stands one that is not seen.
func TestH2Gone(t *testing.T) {
	d := newDesk(t)
	a := d.begin()
	d.is("Insert", a.insert("k", 1), "ok")
	d.is("Get", a.get("k"), "(1)")
	d.is("Delete", a.remove("k"), "(1)")
	d.is("Get of what oneself deleted", a.get("k"), "none")
	a.commits()
	b := d.begin()
	d.is("Get of what is gone", b.get("k"), "none")
	d.is("Insert above it", b.insert("k", 2), "ok")
	c := d.begin()
	d.is("Get by the writer", b.get("k"), "(2)")
	d.is("Get by another one", c.get("k"), "none")
	d.is("Get of nothing but one's own", d.with(nothing, 0).get("k"), "none")
	b.commits()
	d.is("Get by one that began ahead of the commit", c.get("k"), "none")
	d.is("Get behind the commit", d.begin().get("k"), "(2)")
}

// TestH2States: of one version, by each state of its writer: its own transaction, another one that began ahead of it, and one behind it.
func TestH2States(t *testing.T) {
	for _, c := range []struct {
		name             string
		end              func(w who)
		own, old, behind string
	}{
		{"open", func(w who) {}, "(5)", "none", "none"},
		{"prepared", who.prepares, "(5)", "none", "none"},
		{"committed", who.commits, "(5)", "none", "(5)"},
		{"aborted", who.aborts, "none", "none", "none"},
	} {
		d := newDesk(t)
		old := d.begin()
		w := d.begin()
		p := w.part()
		d.is("Insert", w.insert("k", 5), "ok")
		d.is("Insert by a part", p.insert("q", 5), "ok")
		c.end(w)
		behind := d.begin()
		for _, key := range []string{"k", "q"} {
			d.is(c.name+": own", w.get(key), c.own)
			d.is(c.name+": own part", p.get(key), c.own)
			d.is(c.name+": one ahead of it", old.get(key), c.old)
			d.is(c.name+": one behind it", behind.get(key), c.behind)
			d.is(c.name+": nobody", d.with(d.m.Snapshot(), 0).get(key), c.behind)
		}
	}
}

// TestH2Parts: what a part wrote is there for its transaction and the other parts, till it is taken back; what is beneath it is there then.
func TestH2Parts(t *testing.T) {
	d := newDesk(t)
	a := d.begin()
	d.is("Insert", a.insert("k", 1), "ok")
	p := a.part()
	d.is("Update", p.update("k", 2), "(1)")
	q := p.part()
	d.is("Delete", q.remove("k"), "(2)")
	for _, w := range []who{a, p, q} {
		d.is("Get of what an inner part deleted", w.get("k"), "none")
	}
	q.isBack()
	for _, w := range []who{a, p, q} {
		d.is("Get behind the inner part", w.get("k"), "(2)")
	}
	d.ok(d.m.Release(p.x))
	d.is("Get of what was released", a.get("k"), "(2)")
	r := a.part()
	d.is("Update", r.update("k", 3), "(2)")
	r.isBack()
	d.is("Get behind another part", a.get("k"), "(2)")
	a.commits()
	d.is("Get behind the commit", d.begin().get("k"), "(2)")
	d.versions("nothing is forgotten", 4)
}

// TestH2AnyNumbers: what was written under numbers that nobody gave is seen by the snapshot's Min alone.
func TestH2AnyNumbers(t *testing.T) {
	for _, writer := range append([]int{1, 2, 3, 99}, never...) {
		for _, min := range []int{math.MinInt, -1, 0, 1, 2, 3, 4, 98, 99, 100, last, last + 1, last + 2, math.MaxInt} {
			d := newDesk(t)
			s := api.Snapshot{Min: min, Max: 1, Open: []int{writer}}
			d.is("Insert", d.with(s, writer).insert("k", 5), "ok")
			want := "none"
			if writer >= 1 && writer < min {
				want = "(5)"
			}
			for _, own := range []int{writer, 0, 1, -1, math.MaxInt} {
				d.is("Get of what nobody wrote", d.with(s, own).get("k"), want)
			}
			d.versions("it is there, seen or not", 1)
		}
	}
}

// TestH2Later: a number that nobody gave is given later; the heap asks for it as it is then.
func TestH2Later(t *testing.T) {
	d := newDesk(t)
	d.is("Insert under 1", d.with(nothing, 1).insert("k", 5), "ok")
	d.is("Get while nobody has it", d.with(all, 0).get("k"), "(5)")
	a := d.begin()
	d.is("Get while it is open", d.with(all, 0).get("k"), "none")
	d.is("Get of its own", a.get("k"), "(5)")
	a.aborts()
	d.is("Get when it is aborted", d.with(all, 0).get("k"), "none")
	d.m.Forget(2)
	d.is("Get when it is forgotten", d.with(all, 0).get("k"), "(5)")
}

// TestH2Forgotten: committed and aborted ones that the manager has forgotten, above one another; what is not below Min is not seen.
func TestH2Forgotten(t *testing.T) {
	d := newDesk(t)
	a := d.begin()
	d.is("Insert", a.insert("k", 1), "ok")
	a.commits()
	b := d.begin()
	p := b.part()
	d.is("Update", b.update("k", 2), "(1)")
	d.is("Update by a part", p.update("k", 3), "(2)")
	b.aborts()
	now := d.m.Snapshot()
	d.is("Get", d.with(now, 0).get("k"), "(1)")
	d.m.Forget(2)
	d.is("Get when the first one is forgotten", d.with(now, 0).get("k"), "(1)")
	d.m.Forget(10)
	for min, want := range map[int]string{1: "none", 2: "(1)", 3: "(2)", 4: "(3)"} {
		d.is("Get when both are forgotten", d.with(api.Snapshot{Min: min, Max: 4}, 0).get("k"), want)
	}
	d.is("Update of what stands again", d.begin().update("k", 4), "(3)")
}

// TestH2Over: writes under numbers that are over are taken as any others.
func TestH2Over(t *testing.T) {
	d := newDesk(t)
	a, b := d.begin(), d.begin()
	a.commits()
	b.aborts()
	d.is("Insert under one that is committed", a.insert("k", 1), "ok")
	d.is("Insert under one that is aborted", b.insert("q", 1), "ok")
	c := d.begin()
	d.is("Get of it", c.get("k"), "(1)")
	d.is("Get of its own", a.get("k"), "(1)")
	d.is("Get of what never stood", b.get("q")+c.get("q"), "nonenone")
	d.is("Get with no snapshot", d.with(nothing, 0).get("k"), "none")
	d.versions("both are there", 2)
}
