package mvcc_test

import (
	"math"
	"testing"
)

// TestH5States: a version counts while its writer is open or prepared; not when it is over, taken back, or not known.
func TestH5States(t *testing.T) {
	for _, c := range []struct {
		name string
		end  func(w who)
		want bool
	}{
		{"open", func(w who) {}, true},
		{"prepared", who.prepares, true},
		{"committed", who.commits, false},
		{"aborted", who.aborts, false},
		{"committed and forgotten", func(w who) { w.commits(); w.d.m.Forget(9) }, false},
		{"aborted and forgotten", func(w who) { w.aborts(); w.d.m.Forget(9) }, false},
	} {
		for _, by := range []func(w who) who{
			func(w who) who { return w },
			who.part,
			func(w who) who { return w.part().part() },
			func(w who) who { p := w.part(); w.d.ok(w.d.m.Release(p.x)); return p },
		} {
			d := newDesk(t)
			w := d.begin()
			p := by(w)
			d.is("Insert", p.insert("k", 1), "ok")
			other := d.begin()
			c.end(w)
			for _, x := range append([]int{other.x, other.part().x, 99}, never...) {
				d.written(c.name+": another one's", 7, x, c.want)
			}
			d.written(c.name+": its own", 7, w.x, false)
			d.written(c.name+": its own part's", 7, p.x, false)
			for _, table := range odd {
				d.written(c.name+": another table", table, other.x, false)
			}
		}
	}
}

// TestH5Own: all numbers of one's transaction are one's own, the aborted ones too; those of another one are not, with however many of one's own beside them.
func TestH5Own(t *testing.T) {
	d := newDesk(t)
	a := d.begin()
	p, q := a.part(), a.part()
	r := p.part()
	for i, w := range []who{a, p, q, r} {
		d.is("Insert", w.insert(string(rune('a'+i)), i), "ok")
	}
	q.isBack()
	d.ok(d.m.Release(r.x))
	for _, w := range []who{a, p, q, r} {
		d.written("its own", 7, w.x, false)
	}
	b := d.begin()
	d.written("another one", 7, b.x, true)
	d.is("Insert of another one", b.insert("z", 1), "ok")
	for _, w := range []who{a, p, q, r, b} {
		d.written("of two, each finds the other", 7, w.x, true)
	}
	b.commits()
	d.written("the other one is over", 7, a.x, false)
	d.written("it is over, and finds the first", 7, b.x, true)
	a.commits()
	d.written("both are over", 7, b.x, false)
	d.written("both are over, nobody", 7, 0, false)
}

// TestH5Hidden: a version counts also if it says that the row is gone; but not what was taken back, nor what numbers wrote that nobody gave.
func TestH5Hidden(t *testing.T) {
	d := newDesk(t)
	d.upon("k", 1)
	a := d.begin()
	d.is("Delete", a.remove("k"), "(1)")
	d.written("a row that is gone", 7, 0, true)
	b := d.begin()
	p := b.part()
	d.is("Insert by a part", p.insert("q", 1), "ok")
	a.aborts()
	d.written("the part", 7, 0, true)
	d.written("the part is its own", 7, b.x, false)
	p.isBack()
	d.written("the part was taken back", 7, 0, false)
	d.is("Insert under it", p.insert("q", 2), "ok")
	d.written("it writes on", 7, 0, false)
	d.with(all, 99).insert("z", 1)
	d.with(all, -1).insert("y", 1)
	d.written("numbers that nobody gave", 7, 0, false)
	d.written("numbers that nobody gave, of their own", 7, 99, false)
}

// TestH5Buried: an open one's version in the middle of a chain, among others that are over or were never given.
func TestH5Buried(t *testing.T) {
	d := newDesk(t)
	d.is("Insert under 1", d.with(all, 1).insert("k", 1), "ok")
	d.is("Update under 2", d.with(all, 2).update("k", 2), "(1)")
	d.is("Update under 90", d.with(all, 90).update("k", 3), "(2)")
	d.written("nobody has them", 7, 0, false)
	a, b := d.begin(), d.begin()
	a.commits()
	d.written("2 is open", 7, 0, true)
	d.written("2 is open, and asks itself", 7, b.x, false)
	d.written("2 is open, and 1 asks", 7, a.x, true)
	for _, key := range []string{"a", "b", "c", "d", "e"} {
		d.upon(key, 1, 2, 3)
	}
	b.commits()
	d.written("all are over", 7, 0, false)
	c := d.begin()
	c.lays("c", 4)
	d.written("one of many", 7, a.x, true)
	d.written("one of many, its own", 7, c.x, false)
}

// TestH6Empty: a table has no versions any more, whoever wrote them; the others have theirs.
func TestH6Empty(t *testing.T) {
	d := newDesk(t)
	d.upon("k", 1, 2, 0, 3)
	a, b := d.begin(), d.begin()
	a.lays("k", 4)
	b.lays("q", 5)
	for i, table := range odd {
		d.ok(d.h.Insert(a.s, a.x, table, "k", row(i)))
	}
	d.versions("all", 6+len(odd))
	d.h.Empty(1234) // there is none
	d.versions("behind Empty of nothing", 6+len(odd))
	d.h.Empty(7)
	d.versions("behind Empty", len(odd))
	for _, w := range []who{a, b, d.begin(), d.with(all, 0)} {
		d.is("Scan", w.scan(), "")
		d.is("Get", w.get("k")+w.get("q"), "nonenone")
		d.written("an emptied table", 7, w.x, false)
	}
	d.is("Update by who wrote it", a.update("k", 5), "none")
	d.is("Insert by another one", b.insert("k", 6), "ok")
	d.is("Insert by who wrote it", a.insert("k", 7), "conflict")
	for i, table := range odd {
		d.is("Get of another table", d.said(d.h.Get(a.s, a.x, table, "k")), rowText(row(i)))
		d.written("another table", table, b.x, true)
		d.h.Empty(table)
		d.is("Get of it, emptied", d.said(d.h.Get(a.s, a.x, table, "k")), "none")
		d.versions("one by one", len(odd)-i)
		d.h.Empty(table)
	}
	d.h.Empty(7)
	d.versions("all are empty", 0)
}

// TestH6Versions: each write that is not refused is one more, the aborted ones and those that are gone too; no other call forgets one.
func TestH6Versions(t *testing.T) {
	d := newDesk(t)
	n := 0
	for i := range 20 {
		w := d.begin()
		p := w.part()
		d.is("Insert", w.insert("k", i), "ok")
		d.is("Update", p.update("k", i+1), rowText(row(i)))
		d.is("Delete", p.remove("k"), rowText(row(i+1)))
		p.isBack()
		d.ok(d.h.Insert(w.s, w.x, i+100, "", nil))
		n += 4
		d.versions("one each", n)
		d.is("Insert", w.insert("k", 1), "there")
		d.is("Update", w.update("none", 1), "none")
		w.get("k")
		w.scan()
		d.h.Written(7, 0)
		d.versions("refused and read", n)
		w.commits()
		v := d.begin()
		d.is("Update", v.update("k", i), rowText(row(i)))
		v.aborts()
		d.upon("k", 0)
		n += 2
		d.versions("behind the ends", n)
	}
	d.m.Forget(math.MaxInt)
	d.versions("the manager has forgotten all", n)
}
