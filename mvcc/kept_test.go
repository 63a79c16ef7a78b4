package mvcc

import (
	"fmt"
	"testing"

	"confluence/api"
	"confluence/xact"
)

// TestKept: a heap keeps no table and no key of which there is no version: not behind writes that are refused, nor behind Vacuum or Empty.
func TestKept(t *testing.T) {
	m, _ := xact.New(1)
	h := New(m)
	holds := func(what string, tables, keys int) {
		t.Helper()
		n := 0
		for _, l := range h.tables {
			n += len(l)
		}
		if len(h.tables) != tables || n != keys {
			t.Errorf("%s: %d tables and %d keys are kept, want %d and %d", what, len(h.tables), n, tables, keys)
		}
	}
	s := m.Snapshot()
	x, _ := m.Begin()
	r := api.Row{{Kind: api.Int, N: 1}}
	for i := range 100 {
		h.Update(s, x, i, fmt.Sprint(i), r)
		h.Delete(s, x, i, fmt.Sprint(i))
		h.Get(s, x, i, "k")
		for range h.Scan(s, x, i) {
		}
		h.Written(i, x)
		h.Empty(i)
	}
	holds("refused and read", 0, 0)
	for i := range 100 {
		h.Insert(s, x, i/10, fmt.Sprint(i), r)
		h.Insert(s, x, i/10, fmt.Sprint(i), r)
		h.Insert(s, 0, i/10, fmt.Sprint(i), r)
		h.Update(s, x, i/10, "none", r)
	}
	holds("written", 10, 100)
	h.Empty(3)
	holds("emptied", 9, 90)
	m.Abort(x)
	y, _ := m.Begin()
	h.Insert(s, y, 5, "50", r)
	h.Vacuum(nil)
	holds("vacuumed", 1, 1)
	h.Delete(s, y, 5, "50")
	m.Commit(y)
	h.Vacuum(nil)
	holds("vacuumed of what is gone", 0, 0)
}

// TestKeptRoom: neither a refused write nor a Vacuum leaves a row in the room behind a chain.
func TestKeptRoom(t *testing.T) {
	m, _ := xact.New(1)
	h := New(m)
	s := m.Snapshot()
	x, _ := m.Begin()
	r := api.Row{{Kind: api.Int, N: 1}}
	h.Insert(s, x, 7, "k", r)
	room := func(what string, most int) {
		t.Helper()
		c := h.chain(7, "k")
		if cap(c) > most {
			t.Errorf("%s: there is room for %d", what, cap(c))
		}
		for _, v := range c[len(c):cap(c)] {
			if v.row != nil {
				t.Errorf("%s: a row is kept behind the chain", what)
			}
		}
	}
	for i := range 100 {
		h.Insert(s, x, 7, "k", r)
		room("refused", 4*i+8)
		h.Update(s, x, 7, "k", r)
	}
	m.Commit(x)
	h.Vacuum(nil)
	room("vacuumed", 4)
}

// TestUndone: where a write does not come to its end at all, nothing of it is left.
func TestUndone(t *testing.T) {
	m, _ := xact.New(1)
	h := New(m)
	s := m.Snapshot()
	x, _ := m.Begin()
	h.Insert(s, x, 7, "k", api.Row{{Kind: api.Int, N: 1}})
	ends := func(key string) (ended bool) {
		defer func() { ended = recover() == nil }()
		h.write(7, key, gone(x), func(version) bool { panic("no end") }, func(version) api.Errno { panic("no end") })
		return true
	}
	if ends("k") || ends("new") {
		t.Error("the writes have come to an end")
	}
	if r, e := h.Get(s, x, 7, "k"); len(r) != 1 || e != api.OK || h.Versions() != 1 {
		t.Errorf("Get: %v, %d; Versions: %d", r, e, h.Versions())
	}
}
