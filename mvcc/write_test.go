package mvcc_test

import (
	"math"
	"testing"

	"confluence/api"
)

// writes are what the three calls answer; of those that are not refused the chain is asked behind them.
type writes struct{ insert, update, remove string }

// scene is a chain under the key k, and somebody who writes upon it.
type scene struct {
	name string
	lay  func(d *desk) who
	want writes
}

// upon lays rows down by a transaction that is committed: 0 stands for one that is gone.
func (d *desk) upon(key string, l ...int) {
	d.t.Helper()
	w := d.begin()
	w.lays(key, l...)
	w.commits()
}

func (w who) lays(key string, l ...int) {
	w.d.t.Helper()
	for _, n := range l {
		switch there := w.get(key) != "none"; {
		case n == 0:
			w.remove(key)
		case there:
			w.update(key, n)
		default:
			w.insert(key, n)
		}
	}
}

func scenes() []scene {
	conflict := writes{"conflict", "conflict", "conflict"}
	fresh := writes{"ok", "none", "none"}
	over := func(n string) writes { return writes{"there", n, n} }
	// beside is one who began ahead of another, which lays versions upon what was committed, and comes to some end
	beside := func(end func(who), base []int, l ...int) func(*desk) who {
		return func(d *desk) who {
			d.upon("k", base...)
			me, w := d.begin(), d.begin()
			w.lays("k", l...)
			end(w)
			return me
		}
	}
	stays := func(who) {}
	return []scene{
		{"no versions", (*desk).begin, fresh},
		{"a row that is seen", func(d *desk) who { d.upon("k", 5); return d.begin() }, over("(5)")},
		{"the last of several", func(d *desk) who { d.upon("k", 5); d.upon("k", 6, 8); return d.begin() }, over("(8)")},
		{"gone, and seen", func(d *desk) who { d.upon("k", 5, 0); return d.begin() }, fresh},
		{"one's own row", func(d *desk) who { w := d.begin(); w.lays("k", 5, 6); return w }, over("(6)")},
		{"one's own, gone", func(d *desk) who { d.upon("k", 5); w := d.begin(); w.lays("k", 0); return w }, fresh},
		{"an open one's row", beside(stays, nil, 5), conflict},
		{"an open one's row upon one that is seen", beside(stays, []int{4}, 5), conflict},
		{"an open one's, gone", beside(stays, []int{4}, 0), conflict},
		{"an open one's, written and gone", beside(stays, nil, 4, 0), conflict},
		{"a prepared one's row", beside(who.prepares, nil, 5), conflict},
		{"a prepared one's, gone", beside(who.prepares, []int{4}, 0), conflict},
		{"committed since", beside(who.commits, nil, 5), conflict},
		{"committed since, upon one that is seen", beside(who.commits, []int{4}, 5, 6), conflict},
		{"committed since, gone", beside(who.commits, []int{4}, 0), conflict},
		{"aborted, and nothing beneath", beside(who.aborts, nil, 5), fresh},
		{"aborted upon a row", beside(who.aborts, []int{4}, 5, 6), over("(4)")},
		{"aborted, gone, upon a row", beside(who.aborts, []int{4}, 0), over("(4)")},
		{"aborted upon one that is gone", beside(who.aborts, []int{4, 0}, 5), fresh},
		{"aborted upon one that is not seen", func(d *desk) who {
			me := d.begin()
			d.upon("k", 4)
			w := d.begin()
			w.lays("k", 5)
			w.aborts()
			return me
		}, conflict},
		{"a part of one's own", func(d *desk) who { w := d.begin(); w.part().lays("k", 5); return w }, over("(5)")},
		{"the part writes upon its transaction's", func(d *desk) who { w := d.begin(); w.lays("k", 5); return w.part() }, over("(5)")},
		{"a part that was taken back", func(d *desk) who {
			w := d.begin()
			w.lays("k", 4)
			p := w.part()
			p.lays("k", 5, 0)
			p.isBack()
			return w
		}, over("(4)")},
		{"an open one's part that was taken back", func(d *desk) who {
			d.upon("k", 4)
			me, w := d.begin(), d.begin()
			p := w.part()
			p.lays("k", 5)
			p.isBack()
			return me
		}, over("(4)")},
		{"an open one's part", func(d *desk) who { me, w := d.begin(), d.begin(); w.part().lays("k", 5); return me }, conflict},
		{"nobody, with what is committed", func(d *desk) who { d.upon("k", 5); return d.with(d.m.Snapshot(), 0) }, over("(5)")},
		{"nobody, with nothing", func(d *desk) who { d.upon("k", 5); return d.with(nothing, 0) }, conflict},
		{"nobody, with nothing, of what is gone", func(d *desk) who { d.upon("k", 5, 0); return d.with(nothing, -9) }, conflict},
		{"one's own row, whatever the snapshot", func(d *desk) who {
			w := d.with(nothing, d.begin().x)
			w.lays("k", 5)
			return w
		}, over("(5)")},
		{"under a number below 0", func(d *desk) who { d.with(all, -5).insert("k", 5); return d.with(all, -5) }, conflict},
		{"under 0", func(d *desk) who { d.with(all, 0).insert("k", 5); return d.with(all, 0) }, conflict},
		{"under a number that nobody gave, below Min", func(d *desk) who { d.with(all, 99).insert("k", 5); return d.begin().having(100) }, over("(5)")},
		{"under a number that nobody gave, at Min", func(d *desk) who { d.with(all, 99).insert("k", 5); return d.begin().having(99) }, conflict},
		{"a committed one that is forgotten", func(d *desk) who { d.upon("k", 5); d.m.Forget(9); return d.begin() }, over("(5)")},
		{"an aborted one that is forgotten", func(d *desk) who {
			d.upon("k", 4)
			w := d.begin()
			w.lays("k", 5)
			w.aborts()
			d.m.Forget(9)
			return d.begin()
		}, over("(5)")},
		{"an aborted one that is forgotten, and not below Min", func(d *desk) who {
			d.upon("k", 4)
			w := d.begin()
			me := d.begin()
			w.lays("k", 5)
			w.aborts()
			d.m.Forget(3)
			return me
		}, conflict},
	}
}

// having is the same one, with another Min.
func (w who) having(min int) who {
	w.s.Min = min
	return w
}

// TestH3: the three writes upon each chain. What is refused leaves all as it was; what is not adds one version, which its writer sees.
func TestH3(t *testing.T) {
	calls := []struct {
		name string
		do   func(w who) string
		want func(w writes) string
		then string
	}{
		{"Insert", func(w who) string { return w.insert("k", 77) }, func(w writes) string { return w.insert }, "(77)"},
		{"Update", func(w who) string { return w.update("k", 77) }, func(w writes) string { return w.update }, "(77)"},
		{"Delete", func(w who) string { return w.remove("k") }, func(w writes) string { return w.remove }, "none"},
	}
	for _, sc := range scenes() {
		for _, c := range calls {
			d := newDesk(t)
			w := sc.lay(d)
			looks := []who{w, d.with(all, 0), d.with(nothing, 0), d.with(d.m.Snapshot(), 1), d.with(all, 2)}
			was, n := d.picture(looks), d.h.Versions()
			want := c.want(sc.want)
			d.is(sc.name+": "+c.name, c.do(w), want)
			switch want {
			case "conflict", "there", "none":
				d.unchanged(sc.name+": a refused "+c.name, was, looks)
			default:
				d.versions(sc.name+": "+c.name, n+1)
				if d.m.State(w.x) == api.Open {
					d.is(sc.name+": Get behind "+c.name, w.get("k"), c.then)
				}
			}
		}
	}
}

// TestH3Back: a part that was taken back may write as any number may; but what it writes does not stand: each write finds what was there.
func TestH3Back(t *testing.T) {
	d := newDesk(t)
	a := d.begin()
	d.is("Insert", a.insert("q", 1), "ok")
	p := a.part()
	p.isBack()
	for i := range 3 {
		d.is("Insert by a part that was taken back", p.insert("k", i), "ok")
		d.is("Get", p.get("k")+a.get("k"), "nonenone")
		d.is("Update", p.update("k", 7), "none")
		d.is("Update of what stands", p.update("q", 5+i), "(1)")
		d.is("Delete of what stands", p.remove("q"), "(1)")
		d.is("Get of what stands", p.get("q")+a.get("q"), "(1)(1)")
	}
	d.versions("each is a version", 10)
	d.is("Insert by the transaction", a.insert("k", 9), "ok")
	d.is("Insert by it again", a.insert("k", 9), "there")
}

// TestH3Under: the version is the number's that was handed in, the part's own, not its transaction's.
func TestH3Under(t *testing.T) {
	d := newDesk(t)
	a := d.begin()
	p, q := a.part(), a.part()
	d.is("Insert by a part", p.insert("k", 1), "ok")
	d.is("Update by another one", q.update("k", 2), "(1)")
	d.is("Insert by the transaction", a.insert("q", 3), "ok")
	q.isBack()
	d.is("Get behind the one", a.get("k")+a.get("q"), "(1)(3)")
	p.isBack()
	d.is("Get behind the other one", a.get("k")+a.get("q"), "none(3)")
	d.is("Insert where none stands", a.insert("k", 4), "ok")
	a.commits()
	d.is("Get behind the commit", d.begin().scan(), `"k"(4) "q"(3)`)
}

// TestH3Row: rows of all sorts, also such as no table has, come out as they went in; one without values is a row.
func TestH3Row(t *testing.T) {
	long := make(api.Row, 300)
	rows := []api.Row{nil, {}, {{}}, {{Kind: api.Text, S: "it's"}, {Kind: api.Bool, N: 1}, {}}, {{Kind: -3, N: math.MinInt, S: "\x00"}}, long}
	d := newDesk(t)
	a := d.begin()
	d.ok(d.h.Insert(a.s, a.x, 7, "k", row(1)))
	old := row(1)
	for _, r := range rows {
		was, e := d.h.Update(a.s, a.x, 7, "k", r)
		if e != api.OK || !sameRow(was, old) {
			t.Errorf("Update: %v, %d, want %v", was, e, old)
		}
		if got, e := d.h.Get(a.s, a.x, 7, "k"); e != api.OK || !sameRow(got, r) {
			t.Errorf("Get: %v, %d, want %v", got, e, r)
		}
		d.is("Insert upon it", a.insert("k", 2), "there")
		if was, e := d.h.Delete(a.s, a.x, 7, "k"); e != api.OK || !sameRow(was, r) {
			t.Errorf("Delete: %v, %d, want %v", was, e, r)
		}
		d.is("Get of what is gone", a.get("k"), "none")
		d.ok(d.h.Insert(a.s, a.x, 7, "k", r))
		old = r
	}
	d.versions("all", 1+3*len(rows))
}

func sameRow(a, b api.Row) bool {
	if len(a) != len(b) {
		return false
	}
	for i := range a {
		if a[i] != b[i] {
			return false
		}
	}
	return true
}

// TestH3Once: of two that are open at one time the first who writes a row is the one; when it is aborted the other one may.
func TestH3Once(t *testing.T) {
	d := newDesk(t)
	d.upon("k", 1)
	a, b := d.begin(), d.begin()
	d.is("the first", a.update("k", 2), "(1)")
	for range 3 {
		d.is("the second", b.update("k", 3)+b.remove("k")+b.insert("k", 3), "conflictconflictconflict")
		d.is("the second still reads", b.get("k"), "(1)")
	}
	d.is("another row", b.insert("q", 3), "ok")
	d.is("the first at the second's row", a.insert("q", 4), "conflict")
	a.aborts()
	d.is("the second behind the first's end", b.update("k", 3), "(1)")
	b.commits()
	d.is("what is there", d.begin().scan(), `"k"(3) "q"(3)`)
}

// TestH3Tables: a key of one table has nothing to do with that of another.
func TestH3Tables(t *testing.T) {
	d := newDesk(t)
	a, b := d.begin(), d.begin()
	for i, table := range odd {
		w, v := a, b
		if i%2 == 1 {
			w, v = b, a
		}
		d.ok(d.h.Insert(w.s, w.x, table, "", row(i)))
		d.is("Insert by the other one", d.said(nil, d.h.Insert(v.s, v.x, table, "", row(i))), "conflict")
		d.is("Insert again", d.said(nil, d.h.Insert(w.s, w.x, table, "", row(i))), "there")
		d.is("Update", d.said(d.h.Update(w.s, w.x, table, "", row(i+100))), rowText(row(i)))
	}
	for i, table := range odd {
		w := a
		if i%2 == 1 {
			w = b
		}
		d.is("Get", d.said(d.h.Get(w.s, w.x, table, "")), rowText(row(i+100)))
	}
	d.versions("two each", 2*len(odd))
}
