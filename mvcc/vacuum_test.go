package mvcc_test

import (
	"math"
	"slices"
	"testing"

	"confluence/api"
)

// TestH7None: with no snapshots the newest that is settled stays, and what is not over.
func TestH7None(t *testing.T) {
	d := newDesk(t)
	d.upon("k", 1)
	d.upon("k", 2, 3)
	d.upon("k", 4)
	d.upon("q", 5)
	d.vacuums("committed", 3, 2)
	d.is("what is left", d.begin().scan(), `"k"(4) "q"(5)`)
	d.vacuums("again", 0, 2)
	a := d.begin()
	a.lays("k", 6, 7, 0, 8)
	d.vacuums("an open one's, all of them", 0, 6)
	d.is("its own", a.scan(), `"k"(8) "q"(5)`)
	a.prepares()
	d.vacuums("a prepared one's", 0, 6)
	a.aborts()
	d.vacuums("an aborted one's", 4, 2)
	d.is("what is left", d.begin().scan(), `"k"(4) "q"(5)`)
}

// TestH7Parts: what was taken back is forgotten, while its transaction is open; of what was not, all stays.
func TestH7Parts(t *testing.T) {
	d := newDesk(t)
	a := d.begin()
	a.lays("k", 1)
	p := a.part()
	p.lays("k", 2, 3)
	q := p.part()
	q.lays("k", 4)
	q.lays("q", 5)
	d.vacuums("live parts", 0, 5)
	d.ok(d.m.Release(q.x))
	d.vacuums("a released part", 0, 5)
	p.isBack()
	d.vacuums("what was taken back", 4, 1)
	d.is("what is left", a.scan(), `"k"(1)`)
	d.is("Insert where nothing is left", a.insert("q", 6), "ok")
	a.commits()
	d.vacuums("committed", 0, 2)
}

// TestH7Snapshots: for each snapshot the newest that is seen with it, the same one for several, none for one that sees nothing.
func TestH7Snapshots(t *testing.T) {
	var snaps []api.Snapshot
	lay := func() *desk {
		d := newDesk(t)
		snaps = nil
		for n := 1; n <= 6; n++ {
			snaps = append(snaps, d.m.Snapshot())
			d.upon("k", n)
		}
		snaps = append(snaps, d.m.Snapshot())
		d.versions("laid", 6)
		return d
	}
	for _, c := range []struct {
		l    []int // which snapshots
		left int
	}{
		{nil, 1}, {[]int{6}, 1}, {[]int{6, 6, 6}, 1}, {[]int{0}, 1}, {[]int{1}, 2}, {[]int{5}, 2}, {[]int{1, 3}, 3}, {[]int{3, 1}, 3}, {[]int{3, 3, 1, 1}, 3},
		{[]int{0, 2, 6}, 2}, {[]int{1, 2, 3, 4, 5}, 6}, {[]int{0, 1, 2, 3, 4, 5, 6}, 6}, {[]int{5, 4, 2}, 4},
	} {
		d := lay()
		var l []api.Snapshot
		for _, i := range c.l {
			l = append(l, snaps[i])
		}
		d.vacuums("with snapshots", 6-c.left, c.left, l...)
		for _, i := range c.l {
			want := "none"
			if i > 0 {
				want = rowText(row(i))
			}
			d.is("Get with one of them", d.with(snaps[i], 0).get("k"), want)
		}
		d.is("Get of now", d.begin().get("k"), "(6)")
		d.vacuums("again", 0, c.left, l...)
	}
}

// TestH7Above: what stands above the newest that is settled, and what stands between, aborted and open.
func TestH7Above(t *testing.T) {
	d := newDesk(t)
	d.upon("k", 1)
	old := d.begin()
	bad := d.begin()
	bad.lays("k", 9)
	bad.aborts()
	d.upon("k", 2)
	worse := d.begin()
	worse.lays("k", 8, 0)
	worse.aborts()
	open := d.begin()
	open.lays("k", 3)
	// 1, (9), 2, (8), (gone), 3 of an open one
	d.vacuums("with the old one", 3, 3, old.s, open.s)
	d.is("Get", old.get("k")+open.get("k")+d.begin().get("k"), "(1)(3)(2)")
	d.vacuums("without it", 1, 2, open.s)
	d.is("Get", open.get("k")+d.begin().get("k"), "(3)(2)")
	open.commits()
	d.vacuums("behind the commit", 1, 1)
	d.is("Get", d.begin().get("k"), "(3)")
}

// TestH7Aborted: chains of which nothing stands are forgotten; the key is as new.
func TestH7Aborted(t *testing.T) {
	d := newDesk(t)
	a := d.begin()
	for _, key := range []string{"", "a", "b"} {
		a.lays(key, 1, 2)
		d.ok(d.h.Insert(a.s, a.x, 8, key, row(3)))
	}
	a.aborts()
	d.vacuums("aborted", 9, 0, d.m.Snapshot(), a.s)
	b := d.begin()
	d.is("Update", b.update("a", 1), "none")
	d.is("Insert", b.insert("a", 1), "ok")
	b.commits()
	d.vacuums("one that stands", 0, 1)
}

// TestH7Gone: what is gone as the oldest says nothing more, if all see it; what is seen behind it stays.
func TestH7Gone(t *testing.T) {
	d := newDesk(t)
	d.upon("k", 1)
	sees1 := d.m.Snapshot()
	d.upon("k", 0)
	seesGone := d.m.Snapshot()
	d.vacuums("one does not see it gone", 0, 2, sees1)
	d.vacuums("one does not see it gone, another one does", 0, 2, seesGone, sees1)
	d.vacuums("and the other way round", 0, 2, sees1, seesGone)
	d.is("Get", d.with(sees1, 0).get("k"), "(1)")
	d.vacuums("one sees nothing at all", 1, 1, nothing)
	d.vacuums("all see it gone", 1, 0, seesGone, seesGone)
	d.is("Get", d.with(seesGone, 0).get("k")+d.with(all, 0).get("k"), "nonenone")
	d.upon("k", 2, 0)
	d.vacuums("of nothing", 2, 0)
}

// TestH7GoneBeneath: gone beneath an open one's row, and beneath a row that only some see.
func TestH7GoneBeneath(t *testing.T) {
	d := newDesk(t)
	d.upon("k", 1, 0)
	a := d.begin()
	a.lays("k", 2)
	d.vacuums("beneath an open one's", 2, 1, a.s)
	d.is("Get", a.get("k")+d.begin().get("k"), "(2)none")
	a.aborts()
	d.vacuums("behind its abort", 1, 0)

	d.upon("k", 3, 0)
	old := d.begin()
	d.upon("k", 4)
	d.vacuums("beneath a row", 2, 1, old.s)
	d.is("Get", old.get("k")+d.begin().get("k"), "none(4)")
	d.is("Update by who does not see it", old.update("k", 5), "conflict")
}

// TestH7GoneOpen: gone by one that is not over stays, whoever sees what.
func TestH7GoneOpen(t *testing.T) {
	d := newDesk(t)
	a := d.begin()
	a.lays("k", 1, 0)
	d.vacuums("an open one's", 0, 2)
	p := a.part()
	p.lays("k", 2, 0)
	d.vacuums("its part's", 0, 4)
	p.isBack()
	d.vacuums("taken back", 2, 2, a.s)
	a.prepares()
	d.vacuums("a prepared one's", 0, 2, all)
	a.commits()
	d.vacuums("committed, but one does not see it", 1, 1, a.s)
	d.is("Insert by who does not see it", d.with(a.s, 0).insert("k", 3), "conflict")
	d.vacuums("committed", 1, 0)
}

// TestH7GoneOldest: gone as the oldest, but by one that is not over: what was deleted is taken back beneath it.
func TestH7GoneOldest(t *testing.T) {
	d := newDesk(t)
	a := d.begin()
	p := a.part()
	p.lays("k", 1)
	a.lays("k", 0)
	p.isBack()
	d.vacuums("an open one's", 1, 1)
	d.vacuums("an open one's, and one that sees all", 0, 1, all)
	d.is("Insert by another one", d.begin().insert("k", 2), "conflict")
	a.prepares()
	d.vacuums("a prepared one's", 0, 1)
	a.commits()
	d.vacuums("committed", 1, 0)
}

// TestH7GoneAbove: gone for all, but not the oldest: beneath it stands a row of one that is open.
func TestH7GoneAbove(t *testing.T) {
	d := newDesk(t)
	d.is("Insert under 1", d.with(all, 1).insert("k", 1), "ok")
	d.is("Delete under 90", d.with(all, 90).remove("k"), "(1)")
	a := d.begin() // it has the number 1
	d.vacuums("the row is an open one's", 0, 2)
	d.vacuums("the row is an open one's", 0, 2, all)
	a.commits()
	d.vacuums("it is committed", 2, 0, all)
}

// TestH7GoneTwice: gone twice, one behind the other, with what stood between forgotten. The first goes if all see it; then the second one is the oldest.
func TestH7GoneTwice(t *testing.T) {
	lay := func() (*desk, api.Snapshot, api.Snapshot, api.Snapshot) {
		d := newDesk(t)
		d.upon("k", 1)
		s1 := d.m.Snapshot()
		d.upon("k", 0)
		s2 := d.m.Snapshot()
		d.upon("k", 2)
		d.upon("k", 0)
		return d, s1, s2, d.m.Snapshot() // 1, gone, 2, gone
	}
	d, _, s2, s3 := lay()
	d.vacuums("the first is the oldest, and goes; the second one not all see", 3, 1, s2, s3)
	d.is("Insert by who does not see it", d.with(s2, 0).insert("k", 3), "conflict")
	d.vacuums("now all see the second one", 1, 0, s3)
	d, s1, s2, s3 := lay()
	d.vacuums("a row stands beneath them", 1, 3, s1, s2, s3)
	d.is("Get", d.with(s1, 0).get("k")+d.with(s2, 0).get("k")+d.with(s3, 0).get("k"), "(1)nonenone")
	d.vacuums("the row goes, with the first; the second is not seen by all", 2, 1, s2)
	d.vacuums("nobody looks", 1, 0)
	d, _, _, s3 = lay()
	d.vacuums("only the second is needed", 4, 0, s3)
}

// TestH7OwnNumber: what is seen is asked for nobody: an open one's version is no snapshot's, so that the one beneath it is.
func TestH7OwnNumber(t *testing.T) {
	d := newDesk(t)
	d.upon("k", 1)
	a := d.begin()
	d.upon("k", 2)
	d.with(all, a.x).update("k", 3) // upon what a's own snapshot does not see
	d.vacuums("1 by a's snapshot, 2 as the newest that is settled, 3 as a's own", 0, 3, a.s)
	d.vacuums("without it", 1, 2)
}

// TestH7AnyNumbers: numbers that nobody gave are settled; snapshots may have any numbers.
func TestH7AnyNumbers(t *testing.T) {
	lay := func() *desk {
		d := newDesk(t)
		d.ok(d.h.Insert(all, 10, 7, "k", row(1)))
		for i, x := range []int{20, 30, 40} {
			d.is("Update", d.with(all, x).update("k", i+2), rowText(row(i+1)))
		}
		return d
	}
	for _, c := range []struct {
		mins []int
		left int
	}{
		{nil, 1}, {[]int{math.MinInt}, 1}, {[]int{-1, 0, 1, 10}, 1}, {[]int{11}, 2}, {[]int{20}, 2}, {[]int{21}, 2}, {[]int{11, 20}, 2},
		{[]int{20, 30}, 3}, {[]int{30, 40}, 3}, {[]int{40, 41}, 2}, {[]int{math.MaxInt}, 1}, {[]int{40, 30, 20, 10}, 4},
	} {
		d := lay()
		var l []api.Snapshot
		for _, min := range c.mins {
			l = append(l, api.Snapshot{Min: min, Max: -min, Open: []int{10, 20, 30, 40, min}})
		}
		d.vacuums("snapshots of any numbers", 4-c.left, c.left, l...)
		d.is("Get", d.with(all, 0).get("k"), "(4)")
	}
	for _, x := range never { // gone by a number that nobody gave, and that most never see
		d := newDesk(t)
		d.ok(d.h.Insert(all, 10, 7, "k", row(1)))
		d.is("Delete", d.with(all, x).remove("k"), "(1)")
		if x >= 1 && x <= last {
			d.vacuums("all see it gone", 2, 0, all)
			continue
		}
		d.vacuums("nobody sees it gone", 0, 2, all)
		d.vacuums("one more sees nothing", 0, 2, all, nothing)
		d.vacuums("nobody is asked", 2, 0)
	}
}

// TestH7Forgotten: what an aborted one wrote is settled, when the manager has forgotten that.
func TestH7Forgotten(t *testing.T) {
	d := newDesk(t)
	d.upon("k", 1)
	a := d.begin()
	a.lays("k", 2)
	a.aborts()
	d.m.Forget(9)
	d.vacuums("it is the newest that is settled", 1, 1)
	d.is("Get", d.begin().get("k"), "(2)")
	d.is("Get with one that sees only the first", d.with(api.Snapshot{Min: 2}, 0).get("k"), "none")
}

// TestH7Own: the snapshots are neither written into nor kept.
func TestH7Own(t *testing.T) {
	d := newDesk(t)
	d.upon("k", 1)
	a := d.begin()
	d.upon("k", 2)
	whole := []int{3, 1, 2, -7, 9, 9}
	list := []api.Snapshot{{Min: 9, Max: 9, Open: whole[:4]}, copied(a.s), {}, {Max: 5}}
	d.vacuums("with them", 0, 2, list[:3]...)
	if !slices.Equal(whole, []int{3, 1, 2, -7, 9, 9}) || list[0].Min != 9 || list[3].Max != 5 {
		t.Errorf("the snapshots that were handed in: %v, %v", whole, list)
	}
	clear(list)
	d.is("Get", a.get("k")+d.begin().get("k"), "(1)(2)")
	d.vacuums("of now", 1, 1, d.m.Snapshot())
}
