package copying_test

import (
	"fmt"
	"testing"

	"confluence/api"
)

// TestFollowed: by which local tables a copy's table is followed.
func TestFollowed(t *testing.T) {
	for i, c := range []struct {
		key   int
		local []string // nil: there is none of that name
		tab   api.Table
		want  bool
	}{
		{0, []string{"id i", "name t?", "more t?"}, nine(), true},
		{0, []string{"id i", "name t?"}, nine(), true},
		{0, nil, nine(), false},
		// Columns of the copy that are not there, or of another kind.
		{0, []string{"id i", "nam t?"}, nine(), false},
		{0, []string{"id i", "name i?"}, nine(), false},
		{0, []string{"id i", "name b?"}, nine(), false},
		{0, []string{"id t", "name t?"}, nine(), false},
		{0, []string{"id i"}, nine(), false},
		{0, []string{"id i", "a i?", "b t?", "c b?"}, told(9, "t", "id i", "a i", "b t", "c b"), true},
		{0, []string{"id i", "a i?", "b t?", "c b?"}, told(9, "t", "id i", "a i", "b t", "c i"), false},
		{0, []string{"id i", "a i?", "b t?", "c b?"}, told(9, "t", "id i", "a i", "b b", "c b"), false},
		{0, []string{"id i", "a i?", "b t?", "c b?"}, told(9, "t", "id i", "a i", "b t", "c b", "d b"), false},
		{0, []string{"id i", "a i?", "b t?", "c b?"}, told(9, "t", "id i", "c b"), true},
		{0, []string{"id i", "a i?", "b t?", "c b?"}, told(9, "t", "id i"), true},
		// Whether a column of the copy may be null is not asked, on neither side.
		{0, []string{"id i", "name t"}, nine(), true},
		{0, []string{"id i", "name t?"}, told(9, "t", "id i", "name t"), true},
		// Further columns must be such as may be null.
		{0, []string{"id i", "name t?", "more t"}, nine(), false},
		{0, []string{"id i", "name t", "more t"}, nine(), false},
		{0, []string{"id i", "name t", "more t?"}, nine(), true},
		{0, []string{"more i", "id i?", "name t?"}, nine(), false},
		{1, []string{"more b?", "id i", "name t?"}, nine(), true},
		{1, []string{"more b", "id i", "name t?"}, nine(), false},
		{0, []string{"id i", "a i?", "b i?", "c i?", "d i?", "e i?", "f i?", "g i?"}, told(9, "t", "id i"), true},
		{0, []string{"id i", "a i?", "b i?", "c i?", "d i?", "e i?", "f i?", "g i"}, told(9, "t", "id i"), false},
		// The key is the same by its name, wherever it stands.
		{0, []string{"id i", "name t"}, withKey(told(9, "t", "id i", "name t"), 1), false},
		{1, []string{"id i", "name t"}, withKey(told(9, "t", "id i", "name t"), 1), true},
		{1, []string{"id i", "name t"}, withKey(told(9, "t", "name t", "id i"), 0), true},
		{0, []string{"id i", "name t"}, withKey(told(9, "t", "name t", "id i"), 0), false},
		{0, []string{"id i", "name t"}, withKey(told(9, "t", "name t", "id i"), 1), true},
		{0, []string{"key i", "id i?"}, told(9, "t", "id i"), false},
		{0, []string{"id t"}, told(9, "t", "id t"), true},
		// Columns in another order than the local table's.
		{0, []string{"id i", "a t?", "b t?", "c b?"}, withKey(told(9, "t", "c b", "b t", "id i", "a t"), 2), true},
		{2, []string{"a t?", "b t?", "id i", "c b?"}, told(9, "t", "id i", "c b", "a t"), true},
	} {
		k := bare(t)
		k.create("other", 0, "id i", "name t?")
		if c.local != nil {
			k.create("t", c.key, c.local...)
		}
		if c.want {
			k.logs("begin 3; commit 3 from pub at 9000", 0, whole(head(c.tab))...)
		} else {
			k.refuses(api.ErrCopyTable, whole(head(c.tab))...)
			k.refuses(api.ErrCopyTable, whole(head(told(8, "other", "id i")), head(c.tab))...)
			k.refuses(api.ErrCopyTable, whole(head(c.tab), head(told(8, "other", "id i")))...)
		}
		k.is(fmt.Sprint("who is open, ", i), k.s.Active(), []int{})
	}
}

// TestFollowedByName: numbers and versions of tables are each side's own.
func TestFollowedByName(t *testing.T) {
	k := newDesk(t)
	k.create("u", 0, "id i", "name t?")
	x, y := nine(), told(1, "u", "id i", "name t?")
	x.Version, x.ID = last, last
	k.imports(2, whole(head(x), row(last, 1, "t"), head(y), row(1, 1, "u"))...)
	k.has("t", "(1, 't')")
	k.has("u", "(1, 'u')")
}

// TestColumns: values go into the local columns of their names, wherever these and the key stand; all others are null.
func TestColumns(t *testing.T) {
	for _, c := range []struct {
		key   int
		local []string
		tab   api.Table
		row   api.Message
		want  string
	}{
		{0, []string{"id i", "name t?"}, nine(), row(9, 1, "a"), "(1, 'a')"},
		{1, []string{"name t?", "id i"}, nine(), row(9, 1, "a"), "('a', 1)"},
		{2, []string{"more b?", "name t?", "id i", "n i?"}, nine(), row(9, 1, "a"), "(null, 'a', 1, null)"},
		{0, []string{"id i", "a t?", "b t?", "c t?"}, withKey(told(9, "t", "c t", "a t", "id i", "b t"), 2), row(9, "c", "a", 1, "b"), "(1, 'a', 'b', 'c')"},
		{0, []string{"id i", "a t?", "b t?", "c t?"}, told(9, "t", "id i", "b t?"), row(9, 1, "b"), "(1, null, 'b', null)"},
		{0, []string{"id i", "a t?", "b t?", "c t?"}, told(9, "t", "id i"), row(9, 1), "(1, null, null, null)"},
		{3, []string{"a i?", "b i?", "c i?", "id i"}, told(9, "t", "id i", "c i", "b i?", "a i"), row(9, 4, 3, nil, 1), "(1, null, 3, 4)"},
		{7, []string{"a t?", "b t?", "c t?", "d t?", "e t?", "f t?", "g t?", "id t"}, told(9, "t", "id t", "g t", "f t", "e t", "d t", "c t", "b t", "a t"), row(9, "8", "7", "6", "5", "4", "3", "2", "1"), "('1', '2', '3', '4', '5', '6', '7', '8')"},
	} {
		k := bare(t)
		k.create("t", c.key, c.local...)
		k.imports(1, whole(head(c.tab), c.row)...)
		k.has("t", c.want)
		k.crash()
		k.has("t", c.want)
	}
}

// TestWidenedLocal: a local table that was widened takes what has its further column, and what has it not.
func TestWidenedLocal(t *testing.T) {
	for _, tab := range []api.Table{nine(), told(9, "t", "id i", "flag b?")} {
		k := newDesk(t)
		_, e := k.s.WidenTable("t", columns("flag b?")[0])
		k.ok(e)
		k.imports(1, whole(head(tab), row(9, 1, nil))...)
		k.has("t", "(1, null, null)")
	}
	k := newDesk(t)
	k.refuses(api.ErrCopyTable, whole(head(told(9, "t", "id i", "flag b?")))...)
}

// TestThere: a local table that has a committed row lets all be refused, whatever that row is, and be the copy's table without any.
func TestThere(t *testing.T) {
	for _, l := range [][]api.Message{
		whole(head(nine())), whole(head(nine()), row(9, 1, "a")), whole(head(nine()), row(9, 7, "a")), whole(head(told(9, "t", "id i"))),
		whole(head(nine()), row(9, 7, "a"), head(eight())), whole(head(eight()), row(8, "x", 1), head(nine())), whole(head(nine()), head(eight()), row(8, "x", 1)),
	} {
		k := twoTables(t)
		k.put("t", r(1, "a"))
		k.refuses(api.ErrCopyThere, l...)
		x := k.begins()
		k.ok(k.s.Delete(x, "t", v(1)))
		k.refuses(api.ErrCopyThere, l...) // it is committed still
		k.ok(k.s.Prepare(x, "w"))
		k.refuses(api.ErrCopyThere, l...)
		k.crash()
		k.refuses(api.ErrCopyThere, l...)
		_, e := k.s.CommitPrepared("w")
		k.ok(e)
		n := 0
		for _, m := range l {
			if m.Kind == api.MsgInsert {
				n++
			}
		}
		k.imports(n, l...)
	}
}

// TestNoneThere: rows that are not committed are none, nor such as were deleted, emptied, dropped, aborted or taken back; nor those of other tables.
func TestNoneThere(t *testing.T) {
	ways := map[string]func(*desk){
		"deleted": func(k *desk) {
			k.put("t", r(1, "z"), r(2, "z"))
			x := k.begins()
			k.ok(k.s.Delete(x, "t", v(1)), k.s.Delete(x, "t", v(2)))
			_, e := k.s.Commit(x)
			k.ok(e)
		},
		"emptied": func(k *desk) {
			k.put("t", r(1, "z"))
			_, e := k.s.EmptyTable("t")
			k.ok(e)
		},
		"dropped": func(k *desk) {
			k.put("t", r(1, "z"))
			_, e := k.s.DropTable("t")
			k.ok(e)
			k.create("t", 0, "id i", "name t?")
		},
		"aborted": func(k *desk) { k.ok(k.s.Abort(k.writes("t", r(1, "z")))) },
		"taken back": func(k *desk) {
			x := k.begins()
			k.ok(k.s.Savepoint(x, "s"), k.s.Insert(x, "t", r(1, "z")), k.s.RollbackTo(x, "s"))
		},
		"of a prepared one": func(k *desk) {
			k.ok(k.s.Prepare(k.writes("t", r(7, "z")), "w"))
		},
		"of an open one":   func(k *desk) { k.writes("t", r(7, "z")) },
		"of another table": func(k *desk) { k.put("u", r("x", 1)) },
	}
	for what, way := range ways {
		k := twoTables(t)
		way(k)
		k.imports(2, whole(head(nine()), row(9, 1, "a"), row(9, 2, "b"))...)
		k.is("the rows, where those were "+what, k.rows("t"), "(1, 'a') (2, 'b')")
	}
}

// TestTableAheadOfThere: that a table is followed by none is told ahead of rows that are there, be it behind that one in the copy.
func TestTableAheadOfThere(t *testing.T) {
	k := twoTables(t)
	k.put("t", r(1, "a"))
	none := head(told(7, "none", "id i"))
	other := head(told(7, "u", "id i"))
	k.refuses(api.ErrCopyTable, whole(head(nine()), none)...)
	k.refuses(api.ErrCopyTable, whole(none, head(nine()))...)
	k.refuses(api.ErrCopyTable, whole(head(nine()), row(9, 1, "a"), other)...)
	k.refuses(api.ErrCopyTable, whole(other, head(nine()), row(9, 1, "a"))...)
	k.refuses(api.ErrCopyThere, whole(head(eight()), head(nine()))...)
	k.refuses(api.ErrCopyThere, whole(head(nine()), head(eight()))...)
}

// TestRowDoesNotFit: a null in a local column that may have none: all is taken back.
func TestRowDoesNotFit(t *testing.T) {
	k := bare(t)
	k.create("t", 0, "id i", "name t")
	k.create("u", 0, "id t", "n i?")
	k.fails(api.ErrCopyTable, "begin 3; abort 3", whole(head(nine()), row(9, 1, nil))...)
	k.fails(api.ErrCopyTable, "begin 4; insert 4 table 1 (1, 'a'); abort 4", whole(head(nine()), row(9, 1, "a"), row(9, 2, nil), row(9, 3, "c"), head(eight()), row(8, "x", 1))...)
	k.fails(api.ErrCopyTable, "begin 5; insert 5 table 2 ('x', 1); abort 5", whole(head(eight()), row(8, "x", 1), head(nine()), row(9, 1, nil))...)
	k.logs("begin 6; insert 6 table 2 ('x', null); insert 6 table 1 (1, 'a'); commit 6 from pub at 9000", 2, whole(head(eight()), row(8, "x", nil), head(nine()), row(9, 1, "a"))...)
}

// TestManyLocal: a copy of sixteen tables, in another order than the local ones; and of a seventeenth.
func TestManyLocal(t *testing.T) {
	k := bare(t)
	var l []api.Message
	for i := range 16 {
		k.create(fmt.Sprint("t", i), 0, "id i", "name t?")
		at := (i*5 + 3) % 16
		l = append(l, head(told(100-at, fmt.Sprint("t", at), "id i", "name t?")), row(100-at, at, "a"), row(100-at, -at-1, nil))
	}
	k.refuses(api.ErrCopyTable, whole(append(l, head(told(200, "t16", "id i", "name t?")))...)...)
	k.imports(32, whole(l...)...)
	for i := range 16 {
		k.has(fmt.Sprint("t", i), fmt.Sprintf("(%d, null) (%d, 'a')", -i-1, i))
	}
}
