package xact

import (
	"maps"

	"confluence/api"
)

// state is how a number stands, by the numbers that api has for that; a transaction's only rises.
type state int

const (
	unknown state = api.Unknown + iota
	open
	prepared
	committed
	aborted
)

// fate is what has become of a part. It only rises: what is released may still be taken back, and what was taken back stays so.
type fate int

const (
	live fate = iota
	released
	takenBack
)

// table has all numbers that are known.
type table map[int]number

// number is what stands under one: its transaction, and which part of that it is.
type number struct {
	of   *transaction // nil: it is not known
	part int          // a place among the parts; below 0: it is the transaction's own
}

type transaction struct {
	xid   int
	state state
	parts []part // by rising numbers; so each stands behind the one around it
}

type part struct {
	xid    int
	around int // the place of the part in which it stands; below 0: it stands in none
	fate   fate
}

// find is what stands under a number.
func (t table) find(xid int) number { return t[xid] }

// transaction is the one of that number; nil, if there is none.
func (t table) transaction(xid int) *transaction {
	n := t[xid]
	if n.isPart() {
		return nil
	}
	return n.of
}

func (t table) begin(xid int) {
	t[xid] = number{of: &transaction{xid: xid, state: open}, part: -1}
}

// beginWithin lets a part of that number stand in what is known already.
func (t table) beginWithin(around number, xid int) {
	x := around.of
	t[xid] = number{of: x, part: len(x.parts)}
	x.parts = append(x.parts, part{xid: xid, around: around.part})
}

// endPart gives a part, and all within it, a fate, where they have none that is above it.
func (t table) endPart(xid int, f fate) api.Errno {
	n := t[xid]
	switch {
	case !n.isPart():
		return api.ErrXactNone
	case !n.mayGoOn():
		return api.ErrXactOver
	}
	l := n.of.parts
	for i := range l {
		if n.of.within(i, n.part) {
			l[i].fate = max(l[i].fate, f)
		}
	}
	return api.OK
}

// turn lets a transaction stand otherwise, if it is not yet so and not yet over.
func (t table) turn(xid int, to state) api.Errno {
	x := t.transaction(xid)
	switch {
	case x == nil:
		return api.ErrXactNone
	case x.state >= to || x.over():
		return api.ErrXactOver
	}
	x.state = to
	return api.OK
}

// forget takes away what is over and wholly below a number: how many numbers that were.
func (t table) forget(below int) int {
	had := len(t)
	maps.DeleteFunc(t, func(_ int, n number) bool { return n.of.over() && n.of.last() < below })
	return had - len(t)
}

func (n number) known() bool { return n.of != nil }

func (n number) isPart() bool { return n.known() && n.part >= 0 }

// fate is a part's own; the number of a transaction, whose end is its state alone, is live.
func (n number) fate() fate {
	if n.isPart() {
		return n.of.parts[n.part].fate
	}
	return live
}

// mayGoOn tells whether one that is known can still have parts, and, if it is one, a fate.
func (n number) mayGoOn() bool { return n.of.state == open && n.fate() == live }

func (n number) state() state {
	switch {
	case !n.known():
		return unknown
	case n.fate() == takenBack:
		return aborted
	}
	return n.of.state
}

func (x *transaction) over() bool { return x.state >= committed }

// last is the greatest number of it and its parts.
func (x *transaction) last() int {
	if k := len(x.parts); k > 0 {
		return x.parts[k-1].xid
	}
	return x.xid
}

// within tells whether a part is another one, or stands in it, however deep.
func (x *transaction) within(at, outer int) bool {
	for at > outer {
		at = x.parts[at].around
	}
	return at == outer
}

// surviving are the numbers of its parts that are not aborted.
func (x *transaction) surviving() []int {
	var l []int
	for i, p := range x.parts {
		if (number{of: x, part: i}).state() != aborted {
			l = append(l, p.xid)
		}
	}
	return l
}
