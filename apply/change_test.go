package apply_test

import (
	"fmt"
	"testing"

	"confluence/api"
)

// fullDesk is one on a store whose t has the rows 1 and 2, where `more` was not told; an applier is within the transaction 5 at 9000, which has told t.
func fullDesk(t *testing.T) *desk {
	t.Helper()
	k := newDesk(t)
	k.put("t", r(1, "a", "x"), r(2, "b", "y"))
	k.takes(begin(5, 9000), head(nine()))
	return k
}

func (k *desk) commits() {
	k.t.Helper()
	k.takes(commit(5, 9000, 9020))
}

// TestChanges: what each kind makes of rows that are there and of such as are not, what is logged of it, and how it counts.
func TestChanges(t *testing.T) {
	for _, c := range []struct {
		m      api.Message
		logged string
		rows   string
		want   api.Tally
	}{
		{insert(9, 3, "c"), "insert 3 table 1 (3, 'c', null)", "(1, 'a', 'x') (2, 'b', 'y') (3, 'c', null)", tally(1, 1, 0, 0, 0)},
		{insert(9, 1, "c"), "update 3 table 1 (1, 'a', 'x') to (1, 'c', 'x')", "(1, 'c', 'x') (2, 'b', 'y')", tally(1, 0, 1, 0, 0)},
		{insert(9, 1, "a"), "update 3 table 1 (1, 'a', 'x') to (1, 'a', 'x')", "(1, 'a', 'x') (2, 'b', 'y')", tally(1, 0, 1, 0, 0)},
		{insert(9, 1, nil), "update 3 table 1 (1, 'a', 'x') to (1, null, 'x')", "(1, null, 'x') (2, 'b', 'y')", tally(1, 0, 1, 0, 0)},
		{update(9, r(1, "a"), r(1, "c")), "update 3 table 1 (1, 'a', 'x') to (1, 'c', 'x')", "(1, 'c', 'x') (2, 'b', 'y')", tally(1, 0, 1, 0, 0)},
		{update(9, r(1, "other"), r(1, "c")), "update 3 table 1 (1, 'a', 'x') to (1, 'c', 'x')", "(1, 'c', 'x') (2, 'b', 'y')", tally(1, 0, 1, 0, 0)},
		{update(9, r(1, true), r(1, "c")), "update 3 table 1 (1, 'a', 'x') to (1, 'c', 'x')", "(1, 'c', 'x') (2, 'b', 'y')", tally(1, 0, 1, 0, 0)},
		{update(9, r(3, "a"), r(3, "c")), "insert 3 table 1 (3, 'c', null)", "(1, 'a', 'x') (2, 'b', 'y') (3, 'c', null)", tally(1, 1, 0, 0, 0)},
		{remove(9, 1, "a"), "delete 3 table 1 (1, 'a', 'x')", "(2, 'b', 'y')", tally(1, 0, 0, 1, 0)},
		{remove(9, 2, nil), "delete 3 table 1 (2, 'b', 'y')", "(1, 'a', 'x')", tally(1, 0, 0, 1, 0)},
		{remove(9, 1, true), "delete 3 table 1 (1, 'a', 'x')", "(2, 'b', 'y')", tally(1, 0, 0, 1, 0)},
		{remove(9, 3, "a"), "", "(1, 'a', 'x') (2, 'b', 'y')", tally(1, 0, 0, 0, 1)},
		{emptied(9), "delete 3 table 1 (1, 'a', 'x'); delete 3 table 1 (2, 'b', 'y')", "", tally(1, 0, 0, 2, 0)},
	} {
		k := fullDesk(t)
		k.logs(c.logged, c.m)
		k.stands(0, api.Tally{}, true)
		k.sees("t", c.rows)
		k.has("t", "(1, 'a', 'x') (2, 'b', 'y')")
		k.commits()
		k.has("t", c.rows)
		k.stands(9020, c.want, false)
		k.crash()
		k.has("t", c.rows)
	}
}

// TestWithinItself: each change comes upon those ahead of it in the same transaction.
func TestWithinItself(t *testing.T) {
	k := fullDesk(t)
	k.takes(insert(9, 3, "c"), insert(9, 3, "d"), update(9, r(3, "d"), r(3, "e")), remove(9, 3, "e"), remove(9, 3, "e"), update(9, r(3, "e"), r(3, "f")))
	k.takes(remove(9, 1, nil), insert(9, 1, "g"), emptied(9), emptied(9), remove(9, 2, nil), insert(9, 2, "h"), insert(9, 1, "i"), remove(9, 1, nil))
	k.sees("t", "(2, 'h', null)")
	k.commits()
	k.has("t", "(2, 'h', null)")
	k.stands(9020, tally(1, 5, 2, 6, 2), false)
}

// TestEmptyOfNone: a MsgEmpty of a table without rows is OK, and counts nothing.
func TestEmptyOfNone(t *testing.T) {
	k := newDesk(t)
	k.takes(begin(5, 9000), head(nine()))
	k.logs("", emptied(9))
	k.commits()
	k.stands(9020, tally(1, 0, 0, 0, 0), false)
}

// TestEmptyRises: by rising keys, whatever the order in which rows were written, and wherever the key stands.
func TestEmptyRises(t *testing.T) {
	k := bare(t)
	k.create("t", 1, "name t?", "id i")
	k.create("u", 0, "id t")
	k.put("t", r("c", 30), r("a", -5), r("d", 7), r("b", 200))
	k.put("u", r("b"), r("ab"), r(""), r("a"))
	k.takes(begin(5, 9000), head(told(9, "t", "id i")), head(told(8, "u", "id t")), insert(9, -6))
	k.logs("delete 5 table 1 (null, -6); delete 5 table 1 ('a', -5); delete 5 table 1 ('d', 7); delete 5 table 1 ('c', 30); delete 5 table 1 ('b', 200)", emptied(9))
	k.logs("delete 5 table 2 (''); delete 5 table 2 ('a'); delete 5 table 2 ('ab'); delete 5 table 2 ('b')", emptied(8))
	k.commits()
	k.stands(9020, tally(1, 1, 0, 9, 0), false)
}

// TestEmptySome: a MsgEmpty takes what is seen, not what others have committed since.
func TestEmptySome(t *testing.T) {
	k := fullDesk(t)
	k.put("t", r(3, "c", "z"))
	k.takes(emptied(9))
	k.commits()
	k.has("t", "(3, 'c', 'z')")
	k.stands(9020, tally(1, 0, 0, 2, 0), false)
}

// TestColumnsByName: values go into the columns of their names, in whatever order they come, and the key wherever it stands.
func TestColumnsByName(t *testing.T) {
	k := bare(t)
	k.create("t", 2, "a t?", "b t?", "id i", "c b?", "d i?")
	k.takes(begin(5, 9000), head(withKey(told(9, "t", "c b?", "id i", "a t?"), 1)))
	k.logs("insert 2 table 1 ('x', null, 7, true, null)", insert(9, true, 7, "x"))
	k.logs("update 2 table 1 ('x', null, 7, true, null) to (null, null, 7, false, null)", update(9, r(nil, 7, nil), r(false, 7, nil)))
	k.takes(head(withKey(told(9, "t", "d i?", "b t?", "id i"), 2)))
	k.logs("update 2 table 1 (null, null, 7, false, null) to (null, 'y', 7, false, 4)", insert(9, 4, "y", 7))
	k.logs("delete 2 table 1 (null, 'y', 7, false, 4)", remove(9, nil, nil, 7))
	k.logs("", remove(9, 7, nil, 8))
}

// TestNotTold: a local column that is not told is null at first, and is kept as it was later, also what a session has made of it.
func TestNotTold(t *testing.T) {
	k := newDesk(t)
	k.takes(whole(1, 8300, head(nine()), insert(9, 1, "a"))...)
	k.has("t", "(1, 'a', null)")
	x, e := k.s.Begin()
	k.ok(e, k.s.Update(x, "t", r(1, "a", "x")))
	_, e = k.s.Commit(x)
	k.ok(e)
	k.takes(whole(2, 8400, head(nine()), update(9, r(1, "a"), r(1, "b")))...)
	k.has("t", "(1, 'b', 'x')")
	k.takes(whole(3, 8500, head(nine()), insert(9, 1, nil))...)
	k.has("t", "(1, null, 'x')")
	k.takes(whole(4, 8600, head(told(9, "t", "id i")), insert(9, 1))...)
	k.has("t", "(1, null, 'x')")
	k.takes(whole(5, 8700, head(nine()), remove(9, 1, nil), insert(9, 1, "c"))...)
	k.has("t", "(1, 'c', null)")
	k.stands(8720, tally(5, 2, 3, 1, 0), false)
}

// TestRowsOfOtherLengths: a row, and each of the two of an update, has as many values as its table's columns.
func TestRowsOfOtherLengths(t *testing.T) {
	eight := []any{1, nil, nil, nil, nil, nil, nil, nil}
	for _, m := range []api.Message{insert(9, 1), insert(9, 1, "a", "x"), insert(9, eight...), remove(9, 1), remove(9, 1, "a", "x"), remove(9, eight...), remove(9, 7), update(9, r(1), r(1, "b")), update(9, r(1, "a"), r(1)), update(9, r(1), r(1)), update(9, r(1, "a", "x"), r(1, "b")), update(9, r(1, "a"), r(1, "b", "x")), update(9, r(1, "a", "x"), r(1, "b", "x")), update(9, r(1, "a", "x"), r(1))} {
		k := fullDesk(t)
		k.takes(insert(9, 2, "c"))
		k.fails(m, api.ErrApplyMessage)
		k.idly(insert(9, 2, "c"), api.ErrApplyOrder)
	}
	k := fullDesk(t)
	k.takes(head(told(9, "t", "id i")), insert(9, 1), update(9, r(1), r(1)), remove(9, 1))
	k.fails(insert(9, 1, "a"), api.ErrApplyMessage)
}

// TestOldOfAnotherKey: an update whose rows have not one key, be they there or not, and whatever else they are.
func TestOldOfAnotherKey(t *testing.T) {
	for _, m := range []api.Message{update(9, r(2, "b"), r(1, "c")), update(9, r(7, "b"), r(1, "c")), update(9, r(1, "b"), r(7, "c")), update(9, r(7, "b"), r(8, "c")), update(9, r(-1, "a"), r(1, "a")), update(9, r("1", "a"), r(1, "a")), update(9, r(nil, "a"), r(1, "a")), update(9, r(true, "a"), r(1, "a")), update(9, r(1, "a"), r(true, "a")), update(9, r(1, "a"), r(nil, "a")), update(9, r("x", 1), r("y", 1))} {
		k := fullDesk(t)
		k.takes(insert(9, 2, "c"))
		k.fails(m, api.ErrApplyMessage)
	}
	k := fullDesk(t)
	k.takes(head(withKey(told(9, "t", "name t?", "id i"), 1)), update(9, r("p", 1), r("q", 1)))
	k.sees("t", "(1, 'q', 'x') (2, 'b', 'y')")
	k.fails(update(9, r("q", 1), r("q", 2)), api.ErrApplyMessage)
}

// TestValuesRefused: what the local table does not take: another kind, a null where there may be none, a key that may not be.
func TestValuesRefused(t *testing.T) {
	for _, m := range []api.Message{
		insert(9, 3, 5, 1), insert(9, 3, true, 1), insert(9, 1, 5, 1), insert(9, 3, "c", nil), insert(9, 1, "c", nil), insert(9, 3, "c", "5"), insert(9, 1, "c", false),
		insert(9, "3", "c", 1), insert(9, true, "c", 1), insert(9, nil, "c", 1),
		update(9, r(1, "a", 1), r(1, 5, 1)), update(9, r(1, "a", 1), r(1, "b", nil)), update(9, r(3, "a", 1), r(3, "b", nil)), update(9, r(3, "a", 1), r(3, "b", true)),
		update(9, r("1", "a", 1), r("1", "a", 1)), update(9, r(nil, "a", 1), r(nil, "a", 1)), update(9, r(false, "a", 1), r(false, "a", 1)),
		remove(9, "1", "a", 1), remove(9, nil, "a", 1), remove(9, true, "a", 1),
	} {
		k := bare(t)
		k.create("t", 0, "id i", "name t?", "n i")
		k.put("t", r(1, "a", 1), r(2, "b", 2))
		k.takes(begin(5, 9000), head(told(9, "t", "id i", "name t?", "n i")), remove(9, 2, nil, nil))
		k.fails(m, api.ErrApplyFailed)
		k.has("t", "(1, 'a', 1) (2, 'b', 2)")
	}
}

// TestValuesTaken: what the local table takes is taken as it is, at the edges too; of a row that is deleted only the key is looked at.
func TestValuesTaken(t *testing.T) {
	k := bare(t)
	k.create("t", 0, "id t", "a t?", "b i?", "c b?")
	least, most := -1<<63, 1<<63-1
	for i, key := range []any{"", full, "\x00\xff", "a"} {
		l := whole(5, 9000+100*i, head(told(9, "t", "id t", "a t?", "b i?", "c b?")), insert(9, key, full, least, true), update(9, r(key, 1, "x", 1), r(key, "", most, false)))
		k.takes(l...)
	}
	k.has("t", fmt.Sprintf("('', '', %d, false) ('\\00\\ff', '', %d, false) ('a', '', %d, false) ('%s', '', %d, false)", most, most, most, full, most))
	k.takes(whole(6, 9900, head(told(9, "t", "id t", "a t?", "b i?", "c b?")), remove(9, full, 1, true, "x"))...)
	k.stands(9920, tally(5, 4, 4, 1, 0), false)
}

// TestPrecedence: of several errors the one that the chapter names first.
func TestPrecedence(t *testing.T) {
	for _, c := range []struct {
		m    api.Message
		want api.Errno
	}{
		// No MsgTable came, ahead of how many values there are.
		{insert(8, 1), api.ErrApplyOrder},
		{update(8, r(1), r(2)), api.ErrApplyOrder},
		// How many values there are, ahead of the local table, the keys, and the store.
		{insert(7, "x"), api.ErrApplyMessage},
		{update(7, r(1), r(2)), api.ErrApplyMessage},
		{remove(7, "x", 1, 1), api.ErrApplyMessage},
		{update(9, r("x"), r("y")), api.ErrApplyMessage},
		// The local table, ahead of the keys and the store.
		{update(7, r(1, "a"), r(2, "a")), api.ErrApplyTable},
		{insert(7, "x", "a"), api.ErrApplyTable},
		{emptied(7), api.ErrApplyTable},
		// The keys, ahead of the store.
		{update(9, r("x", "a"), r("y", "a")), api.ErrApplyMessage},
		{update(9, r(2, 5), r(1, 5)), api.ErrApplyMessage},
		{update(9, r(2, "b"), r(1, "c")), api.ErrApplyMessage}, // which another transaction has written
	} {
		k := newDesk(t)
		k.create("gone", 0, "id i", "name t?")
		k.put("t", r(1, "a", "x"), r(2, "b", "y"))
		x, e := k.s.Begin()
		k.ok(e, k.s.Update(x, "t", r(1, "a", "z")))
		k.takes(begin(5, 9000), head(nine()), head(told(7, "gone", "id i", "name t?")))
		_, e = k.s.DropTable("gone")
		k.ok(e)
		k.fails(c.m, c.want)
		k.is("who is open", k.s.Active(), []int{x})
	}
}
