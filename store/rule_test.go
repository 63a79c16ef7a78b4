package store_test

import (
	"fmt"
	"math/rand"
	"slices"
	"strings"
	"testing"

	"confluence/api"
	"confluence/catalog"
	"confluence/mvcc"
	"confluence/record"
	"confluence/store"
	"confluence/value"
	"confluence/xact"
)

// rules does records by the words of S3, with the layers below.
type rules struct {
	m       *xact.Manager
	c       *catalog.Catalog
	h       *mvcc.Heap
	began   map[int]api.Snapshot
	waits   map[string]int
	origins map[string]int
}

func newRules() *rules {
	m, _ := xact.New(1)
	return &rules{m: m, c: catalog.New(), h: mvcc.New(m), began: map[int]api.Snapshot{}, waits: map[string]int{}, origins: map[string]int{}}
}

// can does a record; false, if it can't be (then nothing more is to be done with these rules, but of what is asked first).
func (u *rules) can(r api.Rec) bool {
	next := r.Xid == u.m.Next()
	switch r.Kind {
	case api.RecBegin:
		s := u.m.Snapshot()
		if !next || len(u.m.Open()) >= 32 {
			return false
		}
		u.m.Begin()
		u.began[r.Xid] = s
		return true
	case api.RecPart:
		if !next {
			return false
		}
		_, e := u.m.Part(r.Parent)
		return e == api.OK
	case api.RecInsert, api.RecUpdate, api.RecDelete:
		return u.canWrite(r)
	case api.RecRelease:
		return u.m.Release(r.Xid) == api.OK
	case api.RecBack:
		return u.m.Back(r.Xid) == api.OK
	case api.RecPrepare:
		top, _ := u.m.Top(r.Xid)
		if _, taken := u.waits[r.Name]; taken || top != r.Xid || u.m.State(r.Xid) != api.Open {
			return false
		}
		u.waits[r.Name] = r.Xid
		return u.m.Prepare(r.Xid) == api.OK
	case api.RecCommit, api.RecAbort:
		return u.canEnd(r)
	case api.RecCreate, api.RecDrop, api.RecWiden, api.RecEmpty:
		return next && u.canChange(r)
	}
	return len(u.m.Open()) == 0 && next && r.Table == u.c.Next() && fmt.Sprint(r.Tabs) == fmt.Sprint(u.c.List())
}

func (u *rules) canWrite(r api.Rec) bool {
	t, e := u.c.ByID(r.Table)
	if u.m.State(r.Xid) != api.Open || e != api.OK {
		return false
	}
	top, _ := u.m.Top(r.Xid)
	s := u.began[top]
	row := r.New
	if r.Kind == api.RecDelete {
		row = r.Old
	}
	full, e := catalog.Fit(t, row)
	if e != api.OK || len(full) > len(row) {
		return false
	}
	key, _ := value.Key(row[t.Key])
	var old api.Row
	switch r.Kind {
	case api.RecInsert:
		return u.h.Insert(s, r.Xid, t.ID, key, row) == api.OK
	case api.RecUpdate:
		old, e = u.h.Update(s, r.Xid, t.ID, key, row)
	default:
		old, e = u.h.Delete(s, r.Xid, t.ID, key)
	}
	if e != api.OK {
		return false
	}
	old, _ = catalog.Fit(t, old)
	return value.Same(old, r.Old)
}

func (u *rules) canEnd(r api.Rec) bool {
	top, _ := u.m.Top(r.Xid)
	state := u.m.State(r.Xid)
	if top != r.Xid || state != api.Open && state != api.Prepared {
		return false
	}
	for name, x := range u.waits {
		if x == r.Xid {
			delete(u.waits, name)
		}
	}
	if r.Kind == api.RecAbort {
		return u.m.Abort(r.Xid) == api.OK
	}
	if r.Name != "" {
		u.origins[r.Name] = r.Origin
	}
	return u.m.Commit(r.Xid) == api.OK
}

func (u *rules) canChange(r api.Rec) bool {
	switch r.Kind {
	case api.RecCreate:
		if r.Tab.ID != u.c.Next() || r.Tab.Version != 1 || u.c.Put(r.Tab) != api.OK {
			return false
		}
	case api.RecWiden:
		t, e := u.c.ByID(r.Tab.ID)
		if e != api.OK || u.h.Written(t.ID, 0) {
			return false
		}
		wide, e := u.c.Clone().Widen(t.Name, r.Tab.Columns[len(r.Tab.Columns)-1])
		if e != api.OK || fmt.Sprint(wide) != fmt.Sprint(r.Tab) {
			return false
		}
		u.c.Put(wide)
	default:
		t, e := u.c.ByID(r.Table)
		if e != api.OK || u.h.Written(t.ID, 0) {
			return false
		}
		u.h.Empty(t.ID)
		if r.Kind == api.RecDrop {
			u.c.Drop(t.Name)
		}
	}
	x, _ := u.m.Begin()
	u.m.Commit(x)
	return true
}

// guess is a record of some kind that may well be the next one, or nearly.
func guess(r *rand.Rand, u *rules) api.Rec {
	next := u.m.Next()
	any := func() int { return max(1, next-1-r.Intn(8)) }
	near := next
	if r.Intn(12) == 0 {
		near = max(1, next-1+r.Intn(3))
	}
	table := 1 + r.Intn(max(1, u.c.Next()-1))
	row := api.Row{v(r.Intn(3)), v(pick(r, []string{"x", "y"})), v(nil)}
	t, e := u.c.ByID(table)
	if e == api.OK {
		row = row[:min(3, len(t.Columns))]
	}
	if r.Intn(12) == 0 {
		row = row[:1+r.Intn(len(row))]
	}
	name := pick(r, []string{"a", "b", "c"})
	kind := pick(r, []int{1, 1, 1, 2, 2, 3, 3, 3, 3, 3, 3, 4, 4, 4, 4, 5, 5, 5, 6, 7, 8, 8, 8, 9, 10, 11, 12, 13, 14, 15})
	switch kind {
	case api.RecBegin:
		return begins(near)
	case api.RecPart:
		return parts(near, max(1, min(any(), near-1)))
	case api.RecInsert:
		return api.Rec{Kind: kind, Xid: any(), Table: table, New: row}
	case api.RecUpdate, api.RecDelete:
		return guessOld(r, u, api.Rec{Kind: kind, Xid: any(), Table: table, New: row})
	case api.RecCommit:
		if r.Intn(3) == 0 {
			return commitsFrom(any(), name, 1+r.Intn(9000))
		}
		return commits(any())
	case api.RecPrepare:
		return prepares(any(), name)
	case api.RecCreate:
		return creates(near, api.Table{ID: u.c.Next(), Version: 1 + r.Intn(8)/7, Name: name, Columns: two})
	case api.RecWiden:
		t.Columns = append(t.Columns, pick(r, []api.Column{more, more, {Name: "not", Kind: api.Int}}))
		if t.Version++; e != api.OK || len(t.Columns) > 4 {
			return begins(near)
		}
		return widens(near, t)
	case api.RecDrop, api.RecEmpty:
		return api.Rec{Kind: kind, Xid: near, Table: table}
	case api.RecCheckpoint:
		return checks(near, u.c.Next(), u.c.List()...)
	}
	return api.Rec{Kind: kind, Xid: any()}
}

// guessOld gives an update or a delete an old row, mostly the one that its number sees.
func guessOld(r *rand.Rand, u *rules, x api.Rec) api.Rec {
	t, e := u.c.ByID(x.Table)
	x.Old = slices.Clone(x.New)
	if e == api.OK && r.Intn(6) > 0 {
		top, _ := u.m.Top(x.Xid)
		key, _ := value.Key(x.New[0])
		if old, e := u.h.Get(u.began[top], x.Xid, t.ID, key); e == api.OK {
			x.Old = old
			if r.Intn(6) > 0 {
				x.Old, _ = catalog.Fit(t, old)
			}
		}
	}
	if x.Kind == api.RecDelete {
		x.New = nil
	}
	return x
}

// again does records by new rules.
func (l upTo) again() *rules {
	u := newRules()
	for _, x := range l {
		u.can(x)
	}
	return u
}

// TestS3Rules: random logs; a record is done just if the words of S3 say so, and what is there behind them all is what they give.
func TestS3Rules(t *testing.T) {
	can, cant := map[int]int{}, map[int]int{}
	for seed := range int64(60) {
		source := rand.New(rand.NewSource(seed))
		l := upTo{creates(1, table(1, 1, "a", two, 0))}
		u := l.again()
		for range 120 {
			x := guess(source, u)
			if _, e := record.Encode(x); e != api.OK {
				continue
			}
			if u.can(x) {
				can[x.Kind]++
				l = l.and(x)
				continue
			}
			cant[x.Kind]++
			if s, e := l.and(x).open(t); s != nil || e != api.ErrStoreForm {
				t.Fatalf("seed %d: %s then %s: Open: %v, %d", seed, words(l), record.Print(x), s != nil, e)
			}
			u = l.again() // the record may have been done by half
		}
		s, e := l.open(t)
		if e != api.OK {
			t.Fatalf("seed %d: %s: Open: %d", seed, words(l), e)
		}
		if got, want := found(s), u.gives(); got != want {
			t.Fatalf("seed %d: %s: %s, want %s", seed, words(l), got, want)
		}
	}
	for kind := api.RecBegin; kind <= api.RecCheckpoint; kind++ {
		if can[kind] < 3 || cant[kind] < 3 {
			t.Errorf("of the kind %d %d records could be done, and %d not", kind, can[kind], cant[kind])
		}
	}
}

// found is what a store has that is committed, and what waits.
func found(s *store.Store) string {
	out := fmt.Sprint(s.Tables(), strings.Join(s.Prepared(), " "), s.Origin("a"), s.Origin("b"), s.Origin("c"))
	for _, t := range s.Tables() {
		for row := range s.Scan(0, t.Name) {
			out += " " + rowText(row)
		}
	}
	return out
}

// gives is the same of the rules.
func (u *rules) gives() string {
	var names []string
	for name := range u.waits {
		names = append(names, name)
	}
	slices.Sort(names)
	out := fmt.Sprint(u.c.List(), strings.Join(names, " "), u.origins["a"], u.origins["b"], u.origins["c"])
	for _, t := range u.c.List() {
		for _, row := range u.h.Scan(u.m.Snapshot(), 0, t.ID) {
			full, _ := catalog.Fit(t, row)
			out += " " + rowText(full)
		}
	}
	return out
}
