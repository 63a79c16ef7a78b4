package xact_test

import (
	"math/rand"
	"testing"

	"confluence/api"
	"confluence/xact"
)

// life is what a test has noted of a number by the calls that were answered OK; only what is forgotten it has asked for.
type life struct {
	parent    int // 0: it is a transaction
	top       int
	committed int  // the moment; 0: not yet
	failed    bool // it was aborted or taken back
	forgotten bool
}

// taken is a snapshot, and what was seen with it at once by somebody who has no transaction.
type taken struct {
	s    api.Snapshot
	at   int // the moment
	own  int // the transaction that began then; 0: none
	seen map[int]bool
}

// history is a manager, all numbers that it has given, and snapshots that were taken on the way.
type history struct {
	m     *xact.Manager
	now   int
	lives map[int]*life
	given []int
	snaps []taken
}

// take takes a snapshot for one that begins, or for nobody.
func (h *history) take(own int) {
	x := taken{s: h.m.Snapshot(), at: h.now, own: own, seen: map[int]bool{}}
	for n := range h.m.Next() + 50 { // also numbers that are still to come
		x.seen[n] = h.m.Sees(x.s, 0, n)
	}
	h.snaps = append(h.snaps, x)
}

func (h *history) note(t *testing.T, n, parent int) {
	if h.lives[n] != nil {
		t.Errorf("X9: the number %d is given twice", n)
	}
	l := &life{parent: parent, top: n}
	if parent > 0 {
		l.top = h.lives[parent].top
	}
	h.lives[n] = l
	h.given = append(h.given, n)
}

// fails notes that a number, and all parts within it, were aborted or taken back.
func (h *history) fails(n int) {
	for x, l := range h.lives {
		for x != n && x != 0 {
			x = h.lives[x].parent
		}
		l.failed = l.failed || x == n
	}
}

// begin takes the snapshot ahead of Begin or behind it: either is one of its beginning.
func (h *history) begin(t *testing.T, ahead bool) {
	at := len(h.snaps)
	if ahead {
		h.take(0)
	}
	n, _ := h.m.Begin()
	h.note(t, n, 0)
	if !ahead {
		h.take(0)
	}
	h.snaps[at].own = n
}

func (h *history) step(t *testing.T, r *rand.Rand) {
	h.now++
	n := h.given[r.Intn(len(h.given))]
	if r.Intn(2) == 0 {
		n = h.given[len(h.given)-1-r.Intn(min(6, len(h.given)))]
	}
	switch r.Intn(14) {
	case 0, 1, 2:
		h.begin(t, r.Intn(2) == 0)
	case 3, 4, 5, 6:
		if x, e := h.m.Part(n); e == api.OK {
			h.note(t, x, n)
		}
	case 7:
		h.m.Release(n)
	case 8:
		if h.m.Back(n) == api.OK {
			h.fails(n)
		}
	case 9:
		h.m.Prepare(n)
	case 10, 11:
		if h.m.Commit(n) == api.OK {
			h.lives[n].committed = h.now
		}
	case 12:
		if h.m.Abort(n) == api.OK {
			h.fails(n)
		}
	case 13:
		if r.Intn(3) == 0 {
			h.m.Forget(n)
			for x, l := range h.lives {
				l.forgotten = h.m.State(x) == api.Unknown
			}
		} else {
			h.take(0)
		}
	}
}

// check holds what X9 says of each number and each snapshot.
func (h *history) check(t *testing.T) {
	for n, l := range h.lives {
		committed := h.lives[l.top].committed
		s := h.m.State(n)
		if s == api.Committed && committed == 0 {
			t.Errorf("X9: %d is committed, its transaction is not", n)
		}
		if l.failed && s != api.Aborted && !l.forgotten {
			t.Errorf("X9: %d was aborted or taken back and stands as %d", n, s)
		}
		if l.failed {
			continue
		}
		for _, x := range h.snaps {
			got := h.m.Sees(x.s, 0, n)
			if got && !x.seen[n] {
				t.Errorf("X9: %d is seen by %v, as it was not when that was taken", n, x.s)
			}
			if !got && x.seen[n] && !(l.forgotten && n >= x.s.Min) {
				t.Errorf("X9: %d was seen by %v, and is not any more", n, x.s)
			}
			if x.own == 0 || x.own == l.top || l.forgotten || h.lives[x.own].forgotten {
				continue
			}
			ahead := committed > 0 && committed < x.at
			if h.m.Sees(x.s, x.own, n) != ahead {
				t.Errorf("X9: the transaction %d began at %d; %d, of one that was committed at %d: %v", x.own, x.at, n, committed, !ahead)
			}
		}
	}
}

// TestX9: random histories; all that X9 says is looked at behind each step.
func TestX9(t *testing.T) {
	for seed := range 40 {
		r := rand.New(rand.NewSource(int64(seed)))
		h := &history{m: start(t, 1+seed%3), lives: map[int]*life{}}
		h.begin(t, true)
		for range 120 {
			h.step(t, r)
			h.check(t)
		}
		if t.Failed() {
			t.Fatalf("seed %d", seed)
		}
	}
}

// TestX9Own: whatever is done, one sees what is its own and was not taken back, with any snapshot of its time.
func TestX9Own(t *testing.T) {
	m := start(t, 1)
	var early []api.Snapshot
	for range 3 {
		early = append(early, m.Snapshot())
		m.Begin()
	}
	part(t, m, 1, 4)
	part(t, m, 4, 5)
	part(t, m, 1, 6)
	ok(t, m.Back(6), m.Release(4))
	for _, s := range append(early, m.Snapshot()) {
		for _, own := range []int{1, 4, 5, 6} {
			for xid, want := range map[int]bool{1: true, 2: false, 3: false, 4: true, 5: true, 6: false} {
				if got := m.Sees(s, own, xid); got != want {
					t.Errorf("Sees(%v, %d, %d) = %v", s, own, xid, got)
				}
			}
		}
	}
}

// TestExamples: those of the chapter, word for word.
func TestExamples(t *testing.T) {
	m := start(t, 1)
	begin(t, m, 1)
	part(t, m, 1, 2)
	part(t, m, 2, 3)
	begin(t, m, 4)
	is(t, "Release(3)", m.Release(3), api.OK)
	n, e := m.Part(3)
	number(t, "Part(3)", n, e, 0, api.ErrXactOver)
	is(t, "Back(2)", m.Back(2), api.OK)
	states(t, "behind Back(2)", m, 3, api.Aborted)
	part(t, m, 1, 5)
	l, e := m.Parts(1)
	is(t, "Parts(1)", e, api.OK)
	list(t, "Parts(1)", l, 5)
	list(t, "Open", m.Open(), 1, 4)
	s := m.Snapshot()
	snapshot(t, "Snapshot", s, 1, 6, 1, 4)

	sees := func(s api.Snapshot, own, xid int, want bool) {
		t.Helper()
		if got := m.Sees(s, own, xid); got != want {
			t.Errorf("Sees(%v, %d, %d) = %v", s, own, xid, got)
		}
	}
	is(t, "Commit(4)", m.Commit(4), api.OK)
	sees(s, 1, 4, false)
	sees(m.Snapshot(), 1, 4, true)
	sees(s, 5, 1, true)
	sees(s, 5, 2, false)
	is(t, "Prepare(1)", m.Prepare(1), api.OK)
	n, e = m.Part(1)
	number(t, "Part(1)", n, e, 0, api.ErrXactOver)
	is(t, "Commit(1)", m.Commit(1), api.OK)
	is(t, "Abort(1)", m.Abort(1), api.ErrXactOver)
	states(t, "at the end", m, 5, api.Committed)

	forgets(t, m, 6, 5)
	states(t, "behind Forget", m, 1, api.Unknown)
	sees(s, 0, 1, false)
	s.Min = 6
	sees(s, 0, 1, true)
}
