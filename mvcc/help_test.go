package mvcc_test

import (
	"fmt"
	"math"
	"slices"
	"strings"
	"testing"

	"confluence/api"
	"confluence/mvcc"
	"confluence/value"
	"confluence/xact"
)

const last = 2147483647 // the greatest number that is given

// all is a snapshot with which everything is seen that is committed, or forgotten and of a number that could be given.
var all = api.Snapshot{Min: last + 1, Max: last + 1}

// nothing is one with which only one's own is seen.
var nothing = api.Snapshot{}

// odd are tables that no catalog has.
var odd = []int{0, -1, 1, 16, last, last + 1, math.MinInt, math.MaxInt, 1<<32 + 7}

// never are numbers that no manager of these tests gives; some of them are given ones by their lower bits.
var never = []int{0, -1, -2, -5, math.MinInt, math.MaxInt, last, last + 1, 1<<32 + 1, 1<<32 + 2, math.MinInt + 1}

// desk is a manager with a heap over it.
type desk struct {
	t *testing.T
	m *xact.Manager
	h *mvcc.Heap
}

func newDesk(t *testing.T) *desk {
	t.Helper()
	m, e := xact.New(1)
	if m == nil || e != api.OK {
		t.Fatalf("xact.New: %d", e)
	}
	h := mvcc.New(m)
	if h == nil {
		t.Fatal("H1: New is nil")
	}
	return &desk{t: t, m: m, h: h}
}

// who is somebody who reads and writes: a number, with a snapshot.
type who struct {
	d *desk
	s api.Snapshot
	x int
}

// begin begins a transaction, with the snapshot from ahead of that.
func (d *desk) begin() who {
	d.t.Helper()
	s := d.m.Snapshot()
	x, e := d.m.Begin()
	if e != api.OK {
		d.t.Fatalf("Begin: %d", e)
	}
	return who{d: d, s: s, x: x}
}

// with is any number with any snapshot.
func (d *desk) with(s api.Snapshot, x int) who { return who{d: d, s: s, x: x} }

// part begins a part of a transaction, or of a part, which has its snapshot.
func (w who) part() who {
	w.d.t.Helper()
	x, e := w.d.m.Part(w.x)
	if e != api.OK {
		w.d.t.Fatalf("Part(%d): %d", w.x, e)
	}
	return w.as(x)
}

// as is another number with the same snapshot.
func (w who) as(x int) who { return who{d: w.d, s: w.s, x: x} }

// ok is for calls that only have to go well.
func (d *desk) ok(l ...api.Errno) {
	d.t.Helper()
	for i, e := range l {
		if e != api.OK {
			d.t.Fatalf("call %d: %d", i, e)
		}
	}
}

func (w who) commits() { w.d.t.Helper(); w.d.ok(w.d.m.Commit(w.x)) }

func (w who) aborts() { w.d.t.Helper(); w.d.ok(w.d.m.Abort(w.x)) }

func (w who) prepares() { w.d.t.Helper(); w.d.ok(w.d.m.Prepare(w.x)) }

func (w who) isBack() { w.d.t.Helper(); w.d.ok(w.d.m.Back(w.x)) }

// row has one Int.
func row(n int) api.Row { return api.Row{{Kind: api.Int, N: n}} }

// rowText is a row as the tests write it down.
func rowText(r api.Row) string {
	l := make([]string, len(r))
	for i, v := range r {
		l[i] = value.Print(v)
	}
	return "(" + strings.Join(l, " ") + ")"
}

// said is what a call answered; beside an error there must be no row.
func (d *desk) said(r api.Row, e api.Errno) string {
	d.t.Helper()
	if e == api.OK {
		return rowText(r)
	}
	if len(r) > 0 {
		d.t.Errorf("beside the error %d: the row %v", e, r)
	}
	switch e {
	case api.ErrRowNone:
		return "none"
	case api.ErrRowThere:
		return "there"
	case api.ErrRowConflict:
		return "conflict"
	}
	return fmt.Sprint("error ", int(e))
}

// The table of get, insert, update, remove and scan is 7.

func (w who) get(key string) string {
	w.d.t.Helper()
	return w.d.said(w.d.h.Get(w.s, w.x, 7, key))
}

func (w who) insert(key string, n int) string {
	w.d.t.Helper()
	if e := w.d.h.Insert(w.s, w.x, 7, key, row(n)); e != api.OK {
		return w.d.said(nil, e)
	}
	return "ok"
}

func (w who) update(key string, n int) string {
	w.d.t.Helper()
	return w.d.said(w.d.h.Update(w.s, w.x, 7, key, row(n)))
}

func (w who) remove(key string) string {
	w.d.t.Helper()
	return w.d.said(w.d.h.Delete(w.s, w.x, 7, key))
}

func (w who) scan() string { return w.scanOf(7) }

func (w who) scanOf(table int) string { return told(w.d.h.Scan(w.s, w.x, table)) }

// told is what an iterator goes over, on one line.
func told(it func(func(string, api.Row) bool)) string {
	var l []string
	for k, r := range it {
		l = append(l, fmt.Sprintf("%q%s", k, rowText(r)))
	}
	return strings.Join(l, " ")
}

// is holds what was answered against what should have been.
func (d *desk) is(what, got, want string) {
	d.t.Helper()
	if got != want {
		d.t.Errorf("%s: %s, want %s", what, got, want)
	}
}

func (d *desk) versions(what string, want int) {
	d.t.Helper()
	if n := d.h.Versions(); n != want {
		d.t.Errorf("%s: Versions is %d, want %d", what, n, want)
	}
}

// vacuums holds how many versions a Vacuum forgets, and how many it leaves.
func (d *desk) vacuums(what string, forgotten, left int, l ...api.Snapshot) {
	d.t.Helper()
	if n := d.h.Vacuum(l); n != forgotten {
		d.t.Errorf("%s: Vacuum forgets %d, want %d", what, n, forgotten)
	}
	d.versions(what, left)
}

func (d *desk) written(what string, table, xid int, want bool) {
	d.t.Helper()
	if got := d.h.Written(table, xid); got != want {
		d.t.Errorf("%s: Written(%d, %d) is %v", what, table, xid, got)
	}
}

// picture is all that a heap tells of some tables and keys, to some who look.
func (d *desk) picture(looks []who) string {
	var b strings.Builder
	fmt.Fprintln(&b, "versions", d.h.Versions())
	for _, table := range append([]int{7, 8, 9}, odd...) {
		for _, w := range looks {
			fmt.Fprintln(&b, table, w.x, w.s, w.scanOf(table), d.h.Written(table, w.x))
			for _, key := range []string{"", "a", "k", "new", "q", "\xff"} {
				r, e := d.h.Get(w.s, w.x, table, key)
				fmt.Fprintf(&b, "%q %s %d\n", key, rowText(r), e)
			}
		}
	}
	return b.String()
}

// unchanged holds a picture against what it was.
func (d *desk) unchanged(what, was string, looks []who) {
	d.t.Helper()
	if now := d.picture(looks); now != was {
		d.t.Errorf("%s has changed what is told:\n%s\nnow\n%s", what, was, now)
	}
}

// full is the same row, with more room behind it, which is written full.
func full(r api.Row) api.Row {
	l := make(api.Row, len(r), len(r)+3)
	copy(l, r)
	room := l[len(r):cap(l)]
	for i := range room {
		room[i] = api.Value{Kind: api.Text, S: "room"}
	}
	return l
}

// spoil writes over a row, and all of its room.
func spoil(r api.Row) {
	r = r[:cap(r)]
	for i := range r {
		r[i] = api.Value{Kind: api.Text, S: "spoilt"}
	}
}

// copied is the same snapshot, with a list of its own.
func copied(s api.Snapshot) api.Snapshot {
	s.Open = slices.Clone(s.Open)
	return s
}
