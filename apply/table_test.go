package apply_test

import (
	"fmt"
	"testing"

	"confluence/api"
)

// withKey is a table that is told with another key.
func withKey(t api.Table, key int) api.Table {
	t.Key = key
	return t
}

// TestFollowed: by which local tables a table is followed that is told.
func TestFollowed(t *testing.T) {
	for i, c := range []struct {
		key   int
		local []string // nil: there is none of that name
		told  api.Table
		want  bool
	}{
		{0, []string{"id i", "name t?", "more t?"}, nine(), true},
		{0, []string{"id i", "name t?"}, nine(), true},
		{0, nil, nine(), false},
		// Columns that are told, and are not there, or of another kind.
		{0, []string{"id i", "nam t?"}, nine(), false},
		{0, []string{"id i", "name i?"}, nine(), false},
		{0, []string{"id i", "name b?"}, nine(), false},
		{0, []string{"id t", "name t?"}, nine(), false},
		{0, []string{"id i"}, nine(), false},
		{0, []string{"id i", "a i?", "b t?", "c b?"}, told(9, "t", "id i", "a i", "b t", "c b"), true},
		{0, []string{"id i", "a i?", "b t?", "c b?"}, told(9, "t", "id i", "a i", "b t", "c i"), false},
		{0, []string{"id i", "a i?", "b t?", "c b?"}, told(9, "t", "id i", "a i", "b b", "c b"), false},
		{0, []string{"id i", "a i?", "b t?", "c b?"}, told(9, "t", "id i", "a i", "b t", "c b", "d b"), false},
		{0, []string{"id i", "a i?", "b t?", "c b?"}, told(9, "t", "id i", "c b"), true},
		{0, []string{"id i", "a i?", "b t?", "c b?"}, told(9, "t", "id i"), true},
		// Whether a column that is told may be null is not asked, on neither side.
		{0, []string{"id i", "name t"}, nine(), true},
		{0, []string{"id i", "name t?"}, told(9, "t", "id i", "name t"), true},
		// Further columns must be such as may be null.
		{0, []string{"id i", "name t?", "more t"}, nine(), false},
		{0, []string{"id i", "name t", "more t"}, nine(), false},
		{0, []string{"id i", "name t", "more t?"}, nine(), true},
		{0, []string{"more i", "id i?", "name t?"}, nine(), false},
		{1, []string{"more b?", "id i", "name t?"}, nine(), true},
		{1, []string{"more b", "id i", "name t?"}, nine(), false},
		{0, []string{"id i", "a i?", "b i?", "c i?", "d i?", "e i?", "f i?", "g i?"}, told(9, "t", "id i"), true},
		{0, []string{"id i", "a i?", "b i?", "c i?", "d i?", "e i?", "f i?", "g i"}, told(9, "t", "id i"), false},
		// The key is the same by its name, wherever it stands.
		{0, []string{"id i", "name t"}, withKey(told(9, "t", "id i", "name t"), 1), false},
		{1, []string{"id i", "name t"}, withKey(told(9, "t", "id i", "name t"), 1), true},
		{1, []string{"id i", "name t"}, withKey(told(9, "t", "name t", "id i"), 0), true},
		{0, []string{"id i", "name t"}, withKey(told(9, "t", "name t", "id i"), 0), false},
		{0, []string{"id i", "name t"}, withKey(told(9, "t", "name t", "id i"), 1), true},
		{0, []string{"key i", "id i?"}, told(9, "t", "id i"), false},
		{0, []string{"id t"}, told(9, "t", "id t"), true},
		// Columns in another order than the local table's.
		{0, []string{"id i", "a t?", "b t?", "c b?"}, withKey(told(9, "t", "c b", "b t", "id i", "a t"), 2), true},
		{2, []string{"a t?", "b t?", "id i", "c b?"}, told(9, "t", "id i", "c b", "a t"), true},
	} {
		k := bare(t)
		k.create("other", 0, "id i", "name t?")
		if c.local != nil {
			k.create("t", c.key, c.local...)
		}
		k.takes(begin(5, 9000))
		if c.want {
			k.logs("", head(c.told))
			k.is(fmt.Sprint("inside, ", i), k.a.Inside(), true)
			k.takes(emptied(9), commit(5, 9000, 9020))
		} else {
			k.fails(head(c.told), api.ErrApplyTable)
			k.idly(emptied(9), api.ErrApplyOrder)
		}
	}
}

// TestFollowedByName: numbers and versions of tables are each side's own.
func TestFollowedByName(t *testing.T) {
	k := newDesk(t)
	k.create("u", 0, "id i", "name t?")
	x, y := nine(), told(1, "u", "id i", "name t?")
	x.Version = last
	x.ID = last
	k.takes(whole(5, 9000, head(x), head(y), insert(last, 1, "t"), insert(1, 1, "u"))...)
	k.has("t", "(1, 't', null)")
	k.has("u", "(1, 'u')")
}

// TestTablesOfOneTransaction: what was told in one is not known in the next; nor what a transaction told that has failed.
func TestTablesOfOneTransaction(t *testing.T) {
	for _, m := range []api.Message{insert(9, 1, "a"), update(9, r(1, "a"), r(1, "a")), remove(9, 1, null), emptied(9)} {
		k := newDesk(t)
		k.takes(begin(5, 9000))
		k.fails(m, api.ErrApplyOrder)
		k.takes(whole(5, 9000, head(nine()), insert(9, 7, "g"))...)
		k.takes(begin(6, 9100))
		k.fails(m, api.ErrApplyOrder)
		k.takes(begin(6, 9100), head(nine()))
		k.fails(head(told(8, "none", "id i")), api.ErrApplyTable)
		k.takes(begin(6, 9100), head(told(8, "t", "id i", "name t?")), insert(8, 2, "b"))
		k.fails(m, api.ErrApplyOrder)
		k.has("t", "(7, 'g', null)")
		k.takes(begin(3, 8900), head(nine()), commit(3, 8900, 8901), begin(6, 9100))
		k.fails(m, api.ErrApplyOrder)
	}
}

// TestLastOfOneID: of several of one number the last one counts, be it of another table.
func TestLastOfOneID(t *testing.T) {
	k := newDesk(t)
	k.create("u", 0, "id t", "n i?")
	k.takes(begin(5, 9000), head(nine()), insert(9, 1, "a"), head(told(9, "t", "id i", "more t?")), insert(9, 1, "b"), insert(9, 2, "c"))
	k.sees("t", "(1, 'a', 'b') (2, null, 'c')")
	k.takes(head(told(9, "u", "id t", "n i?")), insert(9, "k", 1), head(told(9, "t", "id i")), insert(9, 3), remove(9, 1))
	k.takes(head(withKey(told(9, "t", "name t?", "id i"), 1)), update(9, r("x", 2), r("y", 2)), commit(5, 9000, 9020))
	k.has("t", "(2, 'y', 'c') (3, null, null)")
	k.has("u", "('k', 1)")
	k.stands(9020, tally(1, 4, 2, 1, 0), false)
	k.takes(begin(6, 9100), head(nine()), head(told(9, "t", "id i")))
	k.fails(insert(9, 4, "d"), api.ErrApplyMessage)
}

// TestTwoOfOneTable: several numbers may stand for one local table, each with columns of its own.
func TestTwoOfOneTable(t *testing.T) {
	k := newDesk(t)
	k.takes(begin(5, 9000), head(nine()), head(withKey(told(8, "t", "more t", "id i"), 1)), head(told(7, "t", "id i")))
	k.takes(insert(9, 1, "a"), insert(8, "x", 1), insert(7, 2), insert(8, "y", 2), insert(9, 3, "c"), remove(7, 3))
	k.takes(update(9, r(2, nil), r(2, "b")), commit(5, 9000, 9020))
	k.has("t", "(1, 'a', 'x') (2, 'b', 'y')")
	k.takes(begin(6, 9100), head(nine()), head(told(8, "t", "id i")), insert(9, 4, "d"), emptied(8), insert(9, 1, "e"), commit(6, 9100, 9120))
	k.has("t", "(1, 'e', null)")
	k.stands(9120, tally(2, 5, 3, 4, 0), false)
}

// TestManyTables: sixteen local tables, and as many numbers as one likes.
func TestManyTables(t *testing.T) {
	k := bare(t)
	for i := range 16 {
		k.create(fmt.Sprint("t", i), 0, "id i", "name t?")
	}
	k.takes(begin(5, 9000))
	for id := 1; id <= 1000; id++ {
		k.takes(head(told(id, fmt.Sprint("t", id%16), "id i", "name t?")))
	}
	for id := 1000; id >= 1; id-- {
		k.takes(insert(id, id, "a"))
	}
	k.fails(emptied(1001), api.ErrApplyOrder)
	k.has("t3", "")
}

// TestTableGone: of a local table that does not follow any more nothing is done, whichever change comes; nor is it asked before.
func TestTableGone(t *testing.T) {
	for i, m := range []api.Message{insert(9, 1, "b"), update(9, r(1, "a"), r(1, "b")), update(9, r(1, "a"), r(2, "b")), remove(9, 1, nil), remove(9, 2, nil), emptied(9), insert(9, "x", "b"), insert(9, nil, nil)} {
		for _, anew := range [][]string{nil, {"id i", "nam t?"}, {"id i", "name i?"}, {"id i", "name t?", "more t"}, {"id t", "name t?"}} {
			k := bare(t)
			k.create("t", 0, "id i", "name t?")
			k.create("u", 0, "id i", "name t?")
			k.put("t", r(1, "a"))
			k.takes(begin(5, 9000), head(nine()), head(told(8, "u", "id i")), insert(8, 1))
			_, e := k.s.DropTable("t")
			k.ok(e)
			if anew != nil {
				k.create("t", 0, anew...)
			}
			k.stands(0, api.Tally{}, true)
			k.fails(m, api.ErrApplyTable)
			k.is(fmt.Sprint("what is there of u, ", i), k.rows(0, "u"), "")
		}
	}
}

// TestTableGoneUnasked: a table of which nothing comes any more may go.
func TestTableGoneUnasked(t *testing.T) {
	k := newDesk(t)
	k.create("u", 0, "id i")
	k.takes(begin(5, 9000), head(nine()), head(told(8, "u", "id i")), insert(8, 1))
	_, e := k.s.DropTable("t")
	k.ok(e)
	k.takes(insert(8, 2), commit(5, 9000, 9020))
	k.has("u", "(1) (2)")
	k.takes(begin(6, 9100))
	k.fails(head(nine()), api.ErrApplyTable)
}

// TestTableMadeAnew: one that is dropped and made anew follows, if it is of that name and form; so does one that is made when the transaction is on its way.
func TestTableMadeAnew(t *testing.T) {
	k := newDesk(t)
	k.put("t", r(1, "a"))
	k.takes(begin(5, 9000), head(nine()))
	_, e := k.s.DropTable("t")
	k.ok(e)
	k.create("t", 2, "x b?", "name t?", "id i")
	k.create("late", 0, "id i")
	k.takes(insert(9, 1, "b"), insert(9, 2, "c"), head(told(8, "late", "id i")), insert(8, 1), commit(5, 9000, 9020))
	k.has("t", "(null, 'b', 1) (null, 'c', 2)")
	k.has("late", "(1)")
	k.stands(9020, tally(1, 3, 0, 0, 0), false)
}

// TestTableWidened: one that is widened between two messages follows still, and has null there.
func TestTableWidened(t *testing.T) {
	k := newDesk(t)
	k.put("t", r(1, "a", "x"))
	k.takes(begin(5, 9000), head(nine()))
	_, e := k.s.WidenTable("t", columns("wide b?")[0])
	k.ok(e)
	k.takes(insert(9, 1, "b"), insert(9, 2, "c"))
	if _, e := k.s.WidenTable("t", columns("more2 b?")[0]); e != api.ErrStoreWritten {
		t.Errorf("WidenTable: %d", e)
	}
	k.takes(head(told(9, "t", "id i", "wide b?")), insert(9, 3, true), commit(5, 9000, 9020))
	k.has("t", "(1, 'b', 'x', null) (2, 'c', null, null) (3, null, null, true)")
}

// TestTableEmptied: rows that are forgotten for everybody are not there for the applier.
func TestTableEmptied(t *testing.T) {
	k := newDesk(t)
	k.put("t", r(1, "a", "x"), r(2, "b", "y"), r(3, "c", "z"))
	k.takes(begin(5, 9000), head(nine()))
	_, e := k.s.EmptyTable("t")
	k.ok(e)
	k.takes(remove(9, 1, nil), update(9, r(2, "b"), r(2, "c")), emptied(9), insert(9, 3, "d"), commit(5, 9000, 9020))
	k.has("t", "(3, 'd', null)")
	k.stands(9020, tally(1, 2, 0, 1, 1), false)
}
