package apply_test

import (
	"fmt"
	"testing"

	"confluence/api"
	"confluence/code"
	"confluence/files"
	"confluence/record"
)

// write is something that a session does to t.
type write struct {
	what string
	do   func(*desk, int) api.Errno
}

// writes are those of rows 1 and 3, of which only 1 is there.
func writes() []write {
	return []write{
		{"update 1", func(k *desk, x int) api.Errno { return k.s.Update(x, "t", r(1, "s", "s")) }},
		{"delete 1", func(k *desk, x int) api.Errno { return k.s.Delete(x, "t", v(1)) }},
		{"insert 3", func(k *desk, x int) api.Errno { return k.s.Insert(x, "t", r(3, "s", "s")) }},
	}
}

// TestConflicts: changes of rows that a session has changed, and not committed, aborted, committed since, or committed ahead of the beginning.
func TestConflicts(t *testing.T) {
	const open, aborted, since, ahead = "open", "aborted", "since", "ahead"
	messages := map[string]api.Message{"insert 1": insert(9, 1, "p"), "update 1": update(9, r(1, "a"), r(1, "p")), "remove 1": remove(9, 1, nil), "insert 3": insert(9, 3, "p"), "update 3": update(9, r(3, "a"), r(3, "p")), "remove 3": remove(9, 3, nil), "empty": emptied(9), "insert 2": insert(9, 2, "p")}
	// What is there behind the commit, where the message is OK; "": it fails.
	want := map[string]map[string]map[string]string{
		"update 1": {
			ahead: {"insert 1": "(1, 'p', 's') (2, 'b', 'y')", "update 1": "(1, 'p', 's') (2, 'b', 'y')", "remove 1": "(2, 'b', 'y')", "empty": "none"},
		},
		"delete 1": {
			ahead: {"insert 1": "(1, 'p', null) (2, 'b', 'y')", "update 1": "(1, 'p', null) (2, 'b', 'y')", "remove 1": "(2, 'b', 'y')", "empty": "none"},
		},
		"insert 3": {
			// A row that is not seen can't be deleted: it is missed.
			open:  {"remove 3": "(1, 'a', 'x') (2, 'b', 'y')", "empty": "none"},
			since: {"remove 3": "(1, 'a', 'x') (2, 'b', 'y') (3, 's', 's')", "empty": "(3, 's', 's')"},
			ahead: {"insert 3": "(1, 'a', 'x') (2, 'b', 'y') (3, 'p', 's')", "update 3": "(1, 'a', 'x') (2, 'b', 'y') (3, 'p', 's')", "remove 3": "(1, 'a', 'x') (2, 'b', 'y')", "empty": "none"},
		},
	}
	// What has nothing to do with what the session did is OK in any case.
	apart := func(w, m string) bool { return m == "insert 2" || w[len(w)-1] != m[len(m)-1] && m != "empty" }
	failed := 0
	for _, w := range writes() {
		for _, when := range []string{open, aborted, since, ahead} {
			for what, m := range messages {
				k := newDesk(t)
				k.put("t", r(1, "a", "x"), r(2, "b", "y"))
				if when != ahead {
					k.takes(begin(5, 9000), head(nine()))
				}
				x, e := k.s.Begin()
				k.ok(e, w.do(k, x))
				switch when {
				case aborted:
					k.ok(k.s.Abort(x))
				case since, ahead:
					_, e := k.s.Commit(x)
					k.ok(e)
				}
				if when == ahead {
					k.takes(begin(5, 9000), head(nine()))
				}
				end := want[w.what][when][what]
				if end == "" && when != aborted && !apart(w.what, what) {
					k.fails(m, api.ErrApplyFailed)
					failed++
					continue
				}
				k.takes(m, commit(5, 9000, 9020))
				if end == "none" {
					end = ""
				} else if end == "" {
					continue
				}
				k.is(fmt.Sprintf("%s, %s: %s", w.what, when, what), k.rows(0, "t"), end)
			}
		}
	}
	if failed < 16 {
		t.Errorf("only %d failed", failed)
	}
}

// TestSeen: a local transaction sees what was committed when it began, and its own.
func TestSeen(t *testing.T) {
	k := fullDesk(t)
	k.put("t", r(3, "s", "s"))
	k.sees("t", "(1, 'a', 'x') (2, 'b', 'y')")
	k.takes(remove(9, 3, nil), insert(9, 4, "p"))
	k.sees("t", "(1, 'a', 'x') (2, 'b', 'y') (4, 'p', null)")
	k.fails(insert(9, 3, "p"), api.ErrApplyFailed)
	k.takes(begin(5, 9000), head(nine()), insert(9, 3, "p"), commit(5, 9000, 9020))
	k.has("t", "(1, 'a', 'x') (2, 'b', 'y') (3, 'p', 's')")
	k.stands(9020, tally(1, 0, 1, 0, 0), false)
}

// TestFailedAgain: what has failed may come again as soon as nothing is in its way; Tally counts it once.
func TestFailedAgain(t *testing.T) {
	k := newDesk(t)
	k.put("t", r(1, "a", "x"), r(2, "b", "y"))
	x, e := k.s.Begin()
	k.ok(e, k.s.Delete(x, "t", v(2)))
	l := []api.Message{begin(5, 9000), head(nine()), insert(9, 1, "c"), insert(9, 3, "d"), remove(9, 7, nil), remove(9, 3, nil)}
	for range 3 {
		k.takes(l...)
		k.fails(emptied(9), api.ErrApplyFailed)
		k.takes(l...)
		k.fails(insert(9, 2, "z"), api.ErrApplyFailed)
		k.stands(0, api.Tally{}, false)
	}
	_, e = k.s.Commit(x)
	k.ok(e)
	k.takes(l...)
	k.takes(insert(9, 2, "z"), emptied(9), commit(5, 9000, 9020))
	k.has("t", "")
	k.stands(9020, tally(1, 2, 1, 3, 1), false)
}

// TestEmptyConflict: rows that were deleted ahead of one that is refused are there again.
func TestEmptyConflict(t *testing.T) {
	for i := range 5 {
		k := newDesk(t)
		k.put("t", r(0), r(1), r(2), r(3), r(4))
		x, e := k.s.Begin()
		k.ok(e, k.s.Update(x, "t", r(i, "s")))
		k.takes(begin(5, 9000), head(nine()))
		k.fails(emptied(9), api.ErrApplyFailed)
		k.is("how many rows are there", len(k.rows(0, "t")), 5*len("(0, null, null) ")-1)
	}
}

// TestTakenAway: a local transaction that somebody else has ended: what is asked of the store is refused, and MsgCommit tells the store's own error.
func TestTakenAway(t *testing.T) {
	ends := map[string]func(*desk, int) api.Errno{
		"abort":   func(k *desk, x int) api.Errno { return k.s.Abort(x) },
		"commit":  func(k *desk, x int) api.Errno { _, e := k.s.Commit(x); return e },
		"prepare": func(k *desk, x int) api.Errno { return k.s.Prepare(x, "w") },
	}
	for how, end := range ends {
		for _, m := range []api.Message{insert(9, 1, "b"), insert(9, 3, "b"), update(9, r(1, "a"), r(1, "b")), remove(9, 1, nil), remove(9, 3, nil), commit(5, 9000, 9020), commit(6, 9000, 9020)} {
			k := fullDesk(t)
			k.takes(insert(9, 4, "d"))
			k.ok(end(k, k.s.Active()[0]))
			before := k.kept()
			want := api.ErrApplyFailed
			if m.Kind == api.MsgCommit {
				want = map[int]api.Errno{5: api.ErrStoreNone, 6: api.ErrApplyOrder}[m.Xid]
			}
			k.answers(m, want)
			k.is(fmt.Sprintf("what is kept behind %+v, %s", m, how), k.kept(), before)
			k.stands(0, api.Tally{}, false)
			k.is("who waits", len(k.s.Prepared()), map[bool]int{true: 1}[how == "prepare"])
			k.idly(commit(5, 9000, 9020), api.ErrApplyOrder)
		}
	}
}

// TestTakenAwayUnseen: of a transaction that somebody else has ended no row is seen; nothing is refused of a MsgEmpty then.
func TestTakenAwayUnseen(t *testing.T) {
	k := fullDesk(t)
	k.ok(k.s.Abort(k.s.Active()[0]))
	k.takes(head(nine()), emptied(9))
	k.answers(commit(5, 9000, 9020), api.ErrStoreNone)
	k.stands(0, api.Tally{}, false)
	k.has("t", "(1, 'a', 'x') (2, 'b', 'y')")
}

// TestStoreMany: no room for another transaction: the applier stays outside, and nothing is changed.
func TestStoreMany(t *testing.T) {
	k := newDesk(t)
	k.takes(whole(5, 9000, head(nine()), insert(9, 1, "a"))...)
	var open []int
	for range 31 {
		x, e := k.s.Begin()
		k.ok(e)
		open = append(open, x)
	}
	k.takes(begin(6, 9100))
	b := k.beside("other")
	b.idly(begin(5, 9000), api.ErrStoreMany)
	b.idly(head(nine()), api.ErrApplyOrder)
	k.takes(commit(6, 9100, 9120))
	x, e := k.s.Begin()
	k.ok(e)
	for range 3 {
		k.idly(begin(7, 9200), api.ErrStoreMany)
		k.idlyTaken(begin(5, 9000)) // that one is passed over
		k.idlyTaken(commit(5, 9000, 9020))
	}
	k.stands(9120, tally(2, 1, 0, 0, 0), false)
	k.ok(k.s.Prepare(open[0], "w"))
	k.idly(begin(7, 9200), api.ErrStoreMany)
	k.ok(k.s.Abort(x))
	k.takes(whole(7, 9200, head(nine()), remove(9, 1, nil))...)
	k.stands(9220, tally(3, 1, 0, 1, 0), false)
}

// lateDesk is one on a store without tables that gives just so many numbers more.
func lateDesk(t *testing.T, left int) *desk {
	t.Helper()
	w := code.NewWriter()
	w.Raw("CB")
	w.Var(8192)
	w.Var(0)
	w.Var(0)
	start, _ := w.Done()
	checkpoint, e := record.Encode(api.Rec{Kind: api.RecCheckpoint, Xid: last + 1 - left, Table: 1})
	if e != api.OK {
		t.Fatalf("Encode: %d", e)
	}
	base := ""
	for _, p := range []string{start, checkpoint} {
		frame, _ := code.Frame(p)
		base += frame
	}
	d, e := files.Load(room, []api.File{{Name: "base", Bytes: base}, {Name: "wal.000001"}})
	if e != api.OK {
		t.Fatalf("Load: %d", e)
	}
	return on(t, d)
}

// TestXactLast: no number is left.
func TestXactLast(t *testing.T) {
	k := lateDesk(t, 3)
	k.create("t", 0, "id i", "name t?")
	k.takes(whole(5, 9000, head(nine()), insert(9, 1, "a"))...)
	k.takes(whole(6, 9100, head(nine()), insert(9, 2, "a"))...)
	for range 3 {
		k.idly(begin(7, 9200), api.ErrXactLast)
		k.idly(commit(7, 9200, 9220), api.ErrApplyOrder)
		k.idlyTaken(begin(6, 9100))
		k.idlyTaken(commit(6, 9100, 9120))
	}
	k.has("t", "(1, 'a') (2, 'a')")
	k.stands(9120, tally(2, 2, 0, 0, 0), false)
	k.crash()
	k.idly(begin(7, 9200), api.ErrXactLast)
}
