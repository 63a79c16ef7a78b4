package mvcc_test

import (
	"fmt"
	"math/rand"
	"slices"
	"strings"
	"testing"

	"confluence/api"
	"confluence/xact"
)

// entry is a version with its place.
type entry struct {
	table  int
	key    string
	writer int
	gone   bool
	row    api.Row
}

// model is the chapter told over again, as plainly as may be: one list of all versions, in the order in which they were written.
type model struct {
	m *xact.Manager
	l []entry
}

// chain are the places of a chain's versions in the list, the oldest first.
func (o *model) chain(table int, key string) []int {
	var l []int
	for i, v := range o.l {
		if v.table == table && v.key == key {
			l = append(l, i)
		}
	}
	return l
}

// newest is the place of the newest version of a chain of which something holds; -1: none.
func (o *model) newest(chain []int, holds func(entry) bool) int {
	at := -1
	for _, i := range chain {
		if holds(o.l[i]) {
			at = i
		}
	}
	return at
}

func (o *model) stands(v entry) bool { return o.m.State(v.writer) != api.Aborted }

func (o *model) settled(v entry) bool {
	return o.m.State(v.writer) == api.Committed || o.m.State(v.writer) == api.Unknown
}

func (o *model) get(s api.Snapshot, xid, table int, key string) (api.Row, api.Errno) {
	i := o.newest(o.chain(table, key), func(v entry) bool { return o.m.Sees(s, xid, v.writer) })
	if i < 0 || o.l[i].gone {
		return nil, api.ErrRowNone
	}
	return o.l[i].row, api.OK
}

func (o *model) write(s api.Snapshot, insert bool, v entry) (api.Row, api.Errno) {
	i := o.newest(o.chain(v.table, v.key), o.stands)
	switch {
	case i >= 0 && !o.m.Sees(s, v.writer, o.l[i].writer):
		return nil, api.ErrRowConflict
	case insert && i >= 0 && !o.l[i].gone:
		return nil, api.ErrRowThere
	case !insert && (i < 0 || o.l[i].gone):
		return nil, api.ErrRowNone
	}
	var old api.Row
	if !insert {
		old = o.l[i].row
	}
	o.l = append(o.l, v)
	return old, api.OK
}

func (o *model) keys(table int) []string {
	var l []string
	for _, v := range o.l {
		if v.table == table && !slices.Contains(l, v.key) {
			l = append(l, v.key)
		}
	}
	slices.Sort(l)
	return l
}

func (o *model) scan(s api.Snapshot, xid, table int) string {
	var l []string
	for _, key := range o.keys(table) {
		if r, e := o.get(s, xid, table, key); e == api.OK {
			l = append(l, fmt.Sprintf("%q%s", key, rowText(r)))
		}
	}
	return strings.Join(l, " ")
}

func (o *model) written(table, xid int) bool {
	top, e := o.m.Top(xid)
	return slices.ContainsFunc(o.l, func(v entry) bool {
		s := o.m.State(v.writer)
		if v.table != table || s != api.Open && s != api.Prepared {
			return false
		}
		of, _ := o.m.Top(v.writer)
		return e != api.OK || of != top
	})
}

func (o *model) empty(table int) {
	o.l = slices.DeleteFunc(o.l, func(v entry) bool { return v.table == table })
}

// stays are the places of a chain's versions that a Vacuum leaves.
func (o *model) stays(chain []int, l []api.Snapshot) []int {
	var needed []int
	for _, i := range chain {
		if s := o.m.State(o.l[i].writer); s == api.Open || s == api.Prepared {
			needed = append(needed, i)
		}
	}
	needed = append(needed, o.newest(chain, o.settled))
	for _, s := range l {
		needed = append(needed, o.newest(chain, func(v entry) bool { return o.m.Sees(s, 0, v.writer) }))
	}
	left := slices.DeleteFunc(slices.Clone(chain), func(i int) bool { return !slices.Contains(needed, i) })
	for len(left) > 0 {
		v := o.l[left[0]]
		blind := func(s api.Snapshot) bool { return !o.m.Sees(s, 0, v.writer) }
		if !v.gone || !o.settled(v) || slices.ContainsFunc(l, blind) {
			break
		}
		left = left[1:]
	}
	return left
}

func (o *model) vacuum(l []api.Snapshot) int {
	had, stays := len(o.l), []int(nil)
	for i, v := range o.l {
		if chain := o.chain(v.table, v.key); chain[0] == i {
			stays = append(stays, o.stays(chain, l)...)
		}
	}
	slices.Sort(stays)
	var left []entry
	for _, i := range stays {
		left = append(left, o.l[i])
	}
	o.l = left
	return had - len(left)
}

// script is a desk with its model, snapshots that were taken on the way or made up, and what came of it.
type script struct {
	*desk
	o     *model
	r     *rand.Rand
	snaps []api.Snapshot
	came  map[string]int
	count int
}

var scriptTables = []int{7, -1}

var scriptKeys = []string{"", "a", "\xff"}

func newScript(t *testing.T, seed int, came map[string]int) *script {
	d := newDesk(t)
	return &script{desk: d, o: &model{m: d.m}, r: rand.New(rand.NewSource(int64(seed))), snaps: []api.Snapshot{nothing, all}, came: came}
}

func pick[T any](r *rand.Rand, l []T) T { return l[r.Intn(len(l))] }

// number is one that may be asked for; mostly one that was given, and lately.
func (c *script) number() int {
	next := c.m.Next()
	switch c.r.Intn(40) {
	case 0:
		return pick(c.r, never)
	case 1:
		return next + c.r.Intn(3)
	case 2, 3, 4, 5, 6, 7:
		return c.r.Intn(next + 1)
	}
	return max(0, next-1-c.r.Intn(4))
}

func (c *script) snapshot() api.Snapshot {
	switch c.r.Intn(8) {
	case 0, 1:
		return c.m.Snapshot()
	case 2, 3, 4:
		return all
	case 5:
		return pick(c.r, c.snaps)
	}
	return c.snaps[len(c.snaps)-1-c.r.Intn(min(4, len(c.snaps)))]
}

// manage does something to the transactions alone.
func (c *script) manage() {
	n := c.number()
	switch c.r.Intn(14) {
	case 0, 1, 2, 3:
		c.snaps = append(c.snaps, c.m.Snapshot())
		c.m.Begin()
	case 4, 5, 6:
		c.m.Part(n)
	case 7:
		c.m.Release(n)
	case 8:
		c.m.Back(n)
	case 9:
		c.m.Prepare(n)
	case 10:
		c.m.Commit(n)
	case 11:
		c.m.Abort(n)
	case 12: // most of those that are open, so that chains grow
		for _, x := range c.m.Open() {
			switch c.r.Intn(6) {
			case 0:
			case 1:
				c.m.Abort(x)
			default:
				c.m.Commit(x)
			}
		}
	case 13:
		if c.r.Intn(3) == 0 {
			c.m.Forget(n)
		}
		s := api.Snapshot{Min: c.number(), Max: c.number()}
		for range c.r.Intn(4) {
			s.Open = append(s.Open, c.number())
		}
		c.snaps = append(c.snaps, s)
	}
}

// write does one of the three writes on both.
func (c *script) write() {
	c.t.Helper()
	s, x, table, key := c.snapshot(), c.number(), pick(c.r, scriptTables), pick(c.r, scriptKeys)
	c.count++
	v := entry{table: table, key: key, writer: x, row: row(c.count)}
	var got, want, name string
	switch c.r.Intn(3) {
	case 0:
		name = "Insert"
		got = c.said(nil, c.h.Insert(s, x, table, key, row(c.count)))
		want = c.said(c.o.write(s, true, v))
	case 1:
		name = "Update"
		got = c.said(c.h.Update(s, x, table, key, row(c.count)))
		want = c.said(c.o.write(s, false, v))
	case 2:
		name = "Delete"
		v.gone, v.row = true, nil
		got = c.said(c.h.Delete(s, x, table, key))
		want = c.said(c.o.write(s, false, v))
	}
	c.is(fmt.Sprintf("%s(%v, %d, %d, %q)", name, s, x, table, key), got, want)
	if strings.HasPrefix(want, "(") {
		want = "ok"
	}
	c.came[name+" "+want]++
}

func (c *script) step() {
	c.t.Helper()
	switch k := c.r.Intn(90); {
	case k < 35:
		c.manage()
	case k < 84:
		c.write()
	case k == 84:
		table := pick(c.r, scriptTables)
		c.h.Empty(table)
		c.o.empty(table)
	default:
		var l []api.Snapshot
		for range c.r.Intn(4) {
			l = append(l, c.snapshot())
		}
		got, want := c.h.Vacuum(l), c.o.vacuum(l)
		if got != want {
			c.t.Errorf("Vacuum(%v): %d, want %d", l, got, want)
		}
		c.came["forgotten"] += want
	}
}

// held holds what the heap tells against the model.
func (c *script) held() {
	c.t.Helper()
	c.versions("all", len(c.o.l))
	for _, table := range scriptTables {
		s, x := c.snapshot(), c.number()
		what := fmt.Sprintf("(%v, %d, %d)", s, x, table)
		c.is("Scan"+what, c.with(s, x).scanOf(table), c.o.scan(s, x, table))
		for _, key := range scriptKeys {
			r, e := c.o.get(s, x, table, key)
			c.is("Get"+what, c.said(c.h.Get(s, x, table, key)), c.said(r, e))
		}
		want := c.o.written(table, x)
		c.written("Written", table, x, want)
		c.came[fmt.Sprint("written ", want)]++
	}
}

// TestModel: random calls, right and wrong, on the manager and on the heap, held against the plain list.
func TestModel(t *testing.T) {
	came := map[string]int{}
	for seed := range 150 {
		c := newScript(t, seed, came)
		for range 400 {
			c.step()
			c.held()
			if t.Failed() {
				t.Fatalf("seed %d", seed)
			}
		}
	}
	for _, what := range []string{"Insert ok", "Insert there", "Insert conflict", "Update ok", "Update none", "Update conflict", "Delete ok", "Delete none", "Delete conflict", "forgotten", "written true", "written false"} {
		if came[what] < 500 {
			t.Errorf("%q came only %d times: the calls are not mixed well", what, came[what])
		}
	}
}
