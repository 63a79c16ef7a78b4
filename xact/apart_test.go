package xact_test

import (
	"math"
	"slices"
	"sync"
	"testing"

	"confluence/api"
	"confluence/xact"
)

const mine = -77

// spoil writes over a list and all of its room.
func spoil(l []int) {
	l = l[:cap(l)]
	for i := range l {
		l[i] = mine
	}
}

// TestListsAreNew: each list that comes out is written over, with its room; nothing that is told hangs on it, nor another list.
func TestListsAreNew(t *testing.T) {
	m := zoo(t)
	was := pictureOf(m, upTo(24)...)
	for range 3 {
		spoil(m.Open())
		unchanged(t, "writing over what Open told", m, was)
		spoil(m.Snapshot().Open)
		unchanged(t, "writing over a snapshot", m, was)
		for _, n := range []int{5, 10, 14, 18} {
			l, _ := m.Parts(n)
			spoil(l)
			unchanged(t, "writing over what Parts told", m, was)
		}
	}
	a, b, s := m.Open(), m.Open(), m.Snapshot()
	k, _ := m.Parts(5)
	l, _ := m.Parts(5)
	spoil(a)
	spoil(k)
	list(t, "another list of Open", b, 5, 10)
	list(t, "the list of a snapshot", s.Open, 5, 10)
	list(t, "another list of Parts", l, 6, 7, 8)
}

// TestListsStay: what came out stays as it is, whatever is done behind it.
func TestListsStay(t *testing.T) {
	m := zoo(t)
	open, s := m.Open(), m.Snapshot()
	parts, _ := m.Parts(5)
	begin(t, m, 22)
	part(t, m, 5, 23)
	ok(t, m.Back(6), m.Commit(5), m.Abort(10), m.Commit(22))
	m.Forget(math.MaxInt)
	begin(t, m, 24)
	list(t, "Open", open, 5, 10)
	snapshot(t, "Snapshot", s, 5, 22, 5, 10)
	list(t, "Parts", parts, 6, 7, 8)
}

// TestRoomOfOpen: a list of what was open is written over, with its room, ahead of another Begin, which must not find it.
func TestRoomOfOpen(t *testing.T) {
	m := start(t, 1)
	for i := 1; i <= 40; i++ {
		l := m.Open()
		begin(t, m, i)
		spoil(l)
		l = m.Snapshot().Open
		l = append(l, mine)
		spoil(l)
		list(t, "Open", m.Open(), upTo(i)[1:]...)
	}
	for i := 1; i <= 40; i++ {
		spoil(m.Open())
		ok(t, m.Commit(i))
		list(t, "Open", m.Open(), upTo(40)[i+1:]...)
	}
}

// TestHandedInIsLeft: Sees neither writes into a snapshot's list, nor puts it in order, nor keeps it.
func TestHandedInIsLeft(t *testing.T) {
	m := zoo(t)
	was := pictureOf(m, upTo(24)...)
	whole := []int{18, 5, 14, 5, 10, -3, mine, mine, mine}
	s := api.Snapshot{Min: 5, Max: 22, Open: whole[:6]}
	for own := range 24 {
		for xid := range 24 {
			m.Sees(s, own, xid)
		}
	}
	list(t, "the list that was handed in, and its room", whole, 18, 5, 14, 5, 10, -3, mine, mine, mine)
	if m.Sees(s, 0, 14) {
		t.Error("14 is in Open, and seen")
	}
	spoil(whole)
	if !m.Sees(api.Snapshot{Max: 22}, 0, 14) || !m.Sees(s, 0, 14) {
		t.Error("a list that was handed in is kept")
	}
	unchanged(t, "Sees", m, was)
}

// TestTwoManagers: the same numbers in two of them, and in one that comes and goes, have nothing to do with one another.
func TestTwoManagers(t *testing.T) {
	a, b := zoo(t), zoo(t)
	was := pictureOf(b, upTo(24)...)
	part(t, a, 5, 22)
	ok(t, a.Back(6), a.Release(22), a.Commit(5), a.Abort(10))
	unchanged(t, "what was done to another one", b, was)
	a.Forget(math.MaxInt)
	begin(t, a, 23)
	unchanged(t, "what was done to another one", b, was)
	start(t, 5).Begin()
	unchanged(t, "a new one", b, was)
	part(t, b, 5, 22)
	states(t, "the first one", a, 5, api.Unknown)
	list(t, "Open of the first one", a.Open(), 23)
	list(t, "Open of the second one", b.Open(), 5, 10)
}

// TestSideBySide: managers that are used at one time, and one that is only read by many at one time (for the race detector).
func TestSideBySide(t *testing.T) {
	shared := zoo(t)
	was := pictureOf(shared, upTo(24)...)
	var w sync.WaitGroup
	for range 8 {
		w.Go(func() {
			m, _ := xact.New(1)
			for i := 1; i < 2000; i += 2 {
				m.Begin()
				m.Part(i)
				if i%3 == 0 {
					m.Back(i + 1)
				}
				m.Commit(i)
				m.Forget(i - 100)
			}
			if m.Next() != 2001 || len(m.Open()) != 0 {
				t.Errorf("Next = %d", m.Next())
			}
		})
		w.Go(func() {
			for range 50 {
				unchanged(t, "what is only read", shared, was)
			}
		})
	}
	w.Wait()
}

// TestGreat: very many transactions, of which many are open for long; each call is still at hand.
func TestGreat(t *testing.T) {
	const many = 200000
	m := start(t, 1)
	s := m.Snapshot()
	for i := 1; i <= many; i++ {
		m.Begin()
		if i%1000 != 0 {
			m.Commit(i)
		}
		s = m.Snapshot()
	}
	if len(s.Open) != many/1000 || s.Min != 1000 || s.Max != many+1 {
		t.Fatalf("Snapshot: %d are open, %d, %d", len(s.Open), s.Min, s.Max)
	}
	for i := 1; i <= many; i++ {
		if m.Sees(s, 0, i) != (i%1000 != 0) {
			t.Fatalf("Sees(s, 0, %d)", i)
		}
	}
	forgets(t, m, many/2, many/2-many/2000)
	forgets(t, m, math.MaxInt, many/2-many/2000)
	if !slices.Equal(m.Open(), s.Open) {
		t.Error("Open has changed")
	}
}
