package mvcc

import (
	"slices"

	"confluence/api"
	"confluence/tree"
)

// chains are those of a table, by their keys; each has versions.
type chains map[string]*chain

// chain has the versions of one row, the oldest first.
type chain []version

type version struct {
	writer int
	there  bool // false: the row is gone; so what is no version at all has no row either
	row    api.Row
}

func filled(writer int, r api.Row) version {
	return version{writer: writer, there: true, row: slices.Clone(r)}
}

func gone(writer int) version { return version{writer: writer} }

// place is where the newest version stands of which something holds; below 0: nowhere.
func (c chain) place(holds func(version) bool) int {
	for i, v := range slices.Backward(c) {
		if holds(v) {
			return i
		}
	}
	return -1
}

// newest is that version; false, if there is none.
func (c chain) newest(holds func(version) bool) (version, bool) {
	i := c.place(holds)
	if i < 0 {
		return version{}, false
	}
	return c[i], true
}

// chain is the one of a key; without versions, if there is none.
func (h *Heap) chain(table int, key string) chain {
	if c := h.tables[table][key]; c != nil {
		return *c
	}
	return nil
}

// inOrder are the rows of a table that are seen, by their keys. They stay the heap's own.
func (h *Heap) inOrder(table int, sees func(version) bool) *tree.Tree[api.Row] {
	rows := tree.New[api.Row]()
	for key, c := range h.tables[table] {
		if v, _ := c.newest(sees); v.there {
			rows.Put(key, v.row)
		}
	}
	return rows
}

// tidy lets nothing stay of a chain that has no versions any more.
func (h *Heap) tidy(table int, key string) {
	l := h.tables[table]
	if len(*l[key]) == 0 {
		delete(l, key)
	}
	if len(l) == 0 {
		delete(h.tables, table)
	}
}

// seenBy tells what is seen with a snapshot by a number.
func (h *Heap) seenBy(s api.Snapshot, xid int) func(version) bool {
	return func(v version) bool { return h.xacts.Sees(s, xid, v.writer) }
}

func (h *Heap) stands(v version) bool { return h.xacts.State(v.writer) != api.Aborted }

func (h *Heap) settled(v version) bool {
	s := h.xacts.State(v.writer)
	return s == api.Committed || s == api.Unknown
}

func (h *Heap) ongoing(v version) bool {
	s := h.xacts.State(v.writer)
	return s == api.Open || s == api.Prepared
}
