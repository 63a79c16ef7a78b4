package copying_test

import (
	"fmt"
	"slices"
	"strings"
	"testing"

	"confluence/api"
	"confluence/copying"
	"confluence/publish"
)

// wrongPublications have each one thing wrong.
func wrongPublications() []api.Publication {
	l := []api.Publication{{}, pub(), {Name: "", Tables: all("t").Tables}, {Name: "P", Tables: all("t").Tables}, {Name: strings.Repeat("p", 17), Tables: all("t").Tables},
		all("t", "t"), all("t", "u", "t"), all(""), all("T"), all("t", "a-b"), all("a", "b", "c", "d", "e", "f", "g", "h", "i"),
		pub(some("t", "", "id", "id")), pub(some("t", "", "")), pub(some("t", "", "ID")), pub(some("t", "", "a", "b", "c", "d", "e", "f", "g", "h", "i")),
		pub(some("t", "id =")), pub(some("t", " ")), pub(some("t", "nothing(1)")), pub(some("t", strings.Repeat(" ", 399)+"id")), pub(some("none", "id ="))}
	for _, n := range []int{0, -1, 16, 17, 1 << 32} {
		l = append(l, pub(api.Published{Table: "t", Kinds: n}))
	}
	return l
}

func TestExportOfNoPublication(t *testing.T) {
	k := newDesk(t, r(1, "a"))
	for _, p := range wrongPublications() {
		k.exportsNot(p, api.ErrPublishForm)
	}
	k.exports(all("t"), "from t.1.1(id*, name) 1(1, 'a') to")
}

// TestExportKinds: which kinds of changes a publication wants is not looked at.
func TestExportKinds(t *testing.T) {
	k := newDesk(t, r(1, "a"))
	for kinds := 1; kinds <= 15; kinds++ {
		k.exports(pub(api.Published{Table: "t", Kinds: kinds}), "from t.1.1(id*, name) 1(1, 'a') to")
	}
}

// TestExportTables: those that the store has, in the publication's order.
func TestExportTables(t *testing.T) {
	k := newDesk(t, r(1, "a"))
	k.create("u", 0, "id t")
	k.create("empty", 1, "name t?", "id i")
	k.create("a", 0, "id i")
	k.put("u", r("x"), r("y"))
	k.put("a", r(7))
	for _, c := range []struct {
		p    api.Publication
		want string
	}{
		{all("none"), "from to"},
		{all("none", "other", "ta"), "from to"},
		{all("t"), "from t.1.1(id*, name) 1(1, 'a') to"},
		{all("u"), "from u.2.1(id*) 2('x') 2('y') to"},
		{all("empty"), "from empty.3.1(name, id*) to"},
		{all("t", "u"), "from t.1.1(id*, name) 1(1, 'a') u.2.1(id*) 2('x') 2('y') to"},
		{all("u", "t"), "from u.2.1(id*) 2('x') 2('y') t.1.1(id*, name) 1(1, 'a') to"},
		{all("u", "none", "empty", "a", "other", "t", "b"), "from u.2.1(id*) 2('x') 2('y') empty.3.1(name, id*) a.4.1(id*) 4(7) t.1.1(id*, name) 1(1, 'a') to"},
	} {
		k.exports(c.p, c.want)
	}
	_, e := k.s.DropTable("u")
	k.ok(e)
	k.exports(all("u", "t"), "from t.1.1(id*, name) 1(1, 'a') to")
	k.create("u", 1, "name t?", "id i")
	k.put("u", r("z", 3))
	k.exports(all("u", "t"), "from u.5.1(name, id*) 5('z', 3) t.1.1(id*, name) 1(1, 'a') to")
}

// TestExportNoTables: a store without tables, and one of which nothing is published.
func TestExportNoTables(t *testing.T) {
	k := bare(t)
	k.exports(all("t", "u"), "from to")
	l, lsn, _ := copying.Export(k.s, all("t"))
	k.is("its position", []int{lsn, len(l)}, []int{k.s.Log().End(), 2})
	k.create("v", 0, "id i")
	k.exports(all("t", "u"), "from to")
}

// TestExportMany: eight tables of sixteen, in each of eight orders, with more rows than are read ahead.
func TestExportMany(t *testing.T) {
	k := bare(t)
	var names, texts []string
	for i := range 16 {
		name := fmt.Sprint("t", i)
		k.create(name, 0, "id i")
		text := fmt.Sprintf("%s.%d.1(id*)", name, i+1)
		x := k.begins()
		for n := range i * 40 {
			k.ok(k.s.Insert(x, name, r(n)))
			text += fmt.Sprintf(" %d(%d)", i+1, n)
		}
		_, e := k.s.Commit(x)
		k.ok(e)
		names, texts = append(names, name), append(texts, text)
	}
	for from := 0; from <= 8; from += 4 {
		p, want := all(names[from:from+8]...), slices.Clone(texts[from:from+8])
		for range 8 {
			k.exports(p, "from "+strings.Join(want, " ")+" to")
			p.Tables = append(p.Tables[1:8:8], p.Tables[0])
			want = append(want[1:8:8], want[0])
		}
		slices.Reverse(p.Tables)
		slices.Reverse(want)
		k.exports(p, "from "+strings.Join(want, " ")+" to")
	}
}

// TestExportViews: some columns, with the key, in the table's order; names that it does not have are passed over.
func TestExportViews(t *testing.T) {
	k := bare(t)
	k.create("t", 2, "a i?", "b t?", "id i", "c b?")
	k.put("t", r(10, "x", 1, true), r(nil, nil, 2, nil), r(30, "z", 3, false))
	for _, c := range []struct {
		columns []string
		want    string
	}{
		{nil, "from t.1.1(a, b, id*, c) 1(10, 'x', 1, true) 1(null, null, 2, null) 1(30, 'z', 3, false) to"},
		{[]string{"id"}, "from t.1.1(id*) 1(1) 1(2) 1(3) to"},
		{[]string{"a"}, "from t.1.1(a, id*) 1(10, 1) 1(null, 2) 1(30, 3) to"},
		{[]string{"c"}, "from t.1.1(id*, c) 1(1, true) 1(2, null) 1(3, false) to"},
		{[]string{"c", "b"}, "from t.1.1(b, id*, c) 1('x', 1, true) 1(null, 2, null) 1('z', 3, false) to"},
		{[]string{"c", "id", "a"}, "from t.1.1(a, id*, c) 1(10, 1, true) 1(null, 2, null) 1(30, 3, false) to"},
		{[]string{"none", "b", "other"}, "from t.1.1(b, id*) 1('x', 1) 1(null, 2) 1('z', 3) to"},
		{[]string{"none"}, "from t.1.1(id*) 1(1) 1(2) 1(3) to"},
	} {
		k.exports(pub(some("t", "", c.columns...)), c.want)
	}
	// The whole row is asked, not what is told of it.
	k.exports(pub(some("t", "a > 5 and c", "b")), "from t.1.1(b, id*) 1('x', 1) to")
}

// TestExportFilters: rows of which the filter is true; false, null and an error are all the same.
func TestExportFilters(t *testing.T) {
	k := bare(t)
	k.create("t", 0, "id i", "name t?", "n i?", "flag b?")
	k.put("t", r(1, "a", 5, true), r(2, "b", 0, false), r(3, nil, nil, nil), r(4, "ab", -5, true))
	for filter, want := range map[string]string{
		"":                        "1 2 3 4",
		"true":                    "1 2 3 4",
		"false":                   "",
		"id > 2":                  "3 4",
		"id > 4":                  "",
		"n = 5 or n is null":      "1 3",
		"n <> 5":                  "2 4",
		"flag":                    "1 4",
		"not flag":                "2",
		"10 / n > 0":              "1",
		"n <> 0 and 10 / n < 100": "1 4",
		"10 % n = 0 or true":      "1 3 4", // an error is none, whatever comes behind it
		"id % 0 = 1":              "",
		"n > null":                "",
		"name like 'a%'":          "1 4",
		"length(name) = 2":        "4",
		"id in (1, 3)":            "1 3",
		"id between 2 and 3":      "2 3",
		"coalesce(flag, true)":    "1 3 4",
		"case when id = 1 then true when id = 2 then false end": "1",
		"n + 9223372036854775807 > 0":                           "2 4", // 5 is too much for it
	} {
		text := "from t.1.1(id*, name, n, flag)"
		for _, id := range strings.Fields(want) {
			for row := range k.s.Scan(0, "t") {
				if row[0].N == int(id[0]-'0') {
					text += " 1" + rowText(row)
				}
			}
		}
		k.exports(pub(some("t", filter)), text+" to")
	}
}

// TestExportNoView: filters that can't be asked of a table let it be no part of the copy; the others are.
func TestExportNoView(t *testing.T) {
	k := newDesk(t, r(1, "a"))
	k.create("u", 0, "id i", "n i?")
	k.put("u", r(2, 3))
	for _, filter := range []string{"n = 3", "none", "id", "name", "1", "'a'", "null", "id = 'a'", "id + 1", "not id", "name || 'b'", "coalesce(null, null)"} {
		k.exports(pub(some("t", filter)), "from to")
		k.exports(pub(some("none", filter), some("t", filter), some("u", "")), "from u.2.1(id*, n) 2(2, 3) to")
		k.exports(pub(some("u", "n = 3"), some("t", filter)), "from u.2.1(id*, n) 2(2, 3) to")
	}
	k.exports(pub(some("t", "n = 3"), some("u", "n = 3")), "from u.2.1(id*, n) 2(2, 3) to")
	k.exports(pub(some("t", "n = 3 or true", "id")), "from to")
	_, e := k.s.WidenTable("t", columns("n i?")[0])
	k.ok(e)
	k.put("t", r(2, "b", 3))
	k.exports(pub(some("t", "n = 3")), "from t.1.2(id*, name, n) 1(2, 'b', 3) to")
}

// TestExportOrder: rows by rising keys, in whatever order they were written, and wherever the key stands.
func TestExportOrder(t *testing.T) {
	k := bare(t)
	k.create("t", 0, "id i")
	k.create("u", 1, "n i?", "id t")
	k.put("t", r(3), r(-1), r(0), r(256))
	k.put("t", r(-9223372036854775808), r(9223372036854775807), r(1), r(-256))
	k.put("u", r(1, "b"), r(2, ""), r(3, "a\x00"), r(4, "a"), r(5, "\xff"), r(6, "ab"))
	k.exports(all("t"), "from t.1.1(id*) 1(-9223372036854775808) 1(-256) 1(-1) 1(0) 1(1) 1(3) 1(256) 1(9223372036854775807) to")
	k.exports(all("u"), `from u.2.1(n, id*) 2(2, '') 2(4, 'a') 2(3, 'a\00') 2(6, 'ab') 2(1, 'b') 2(5, '\ff') to`)
}

// TestExportWidest: a table of eight columns, with texts of 200 bytes.
func TestExportWidest(t *testing.T) {
	k := bare(t)
	k.create("t", 7, "a t?", "b t?", "c t?", "d t?", "e t?", "f t?", "g t?", "id t")
	k.put("t", r(full, full, full, full, full, full, full, full), r(nil, nil, nil, nil, nil, nil, nil, ""))
	x := "'" + full + "'"
	k.exports(all("t"), "from t.1.1(a, b, c, d, e, f, g, id*) 1(null, null, null, null, null, null, null, '') 1("+strings.Repeat(x+", ", 7)+x+") to")
}

// TestExportCommitted: what is committed now, and nothing of transactions that are open, prepared or aborted.
func TestExportCommitted(t *testing.T) {
	k := newDesk(t, r(1, "a"), r(2, "b"), r(3, "c"), r(4, "d"))
	tells := func(want string) {
		t.Helper()
		k.exports(all("t"), "from t.1.1(id*, name) "+want+" to")
	}
	open := k.writes("t", r(5, "e"))
	k.ok(k.s.Update(open, "t", r(1, "open")), k.s.Delete(open, "t", v(2)))
	tells("1(1, 'a') 1(2, 'b') 1(3, 'c') 1(4, 'd')")
	waits := k.writes("t", r(6, "f"))
	k.ok(k.s.Update(waits, "t", r(3, "waits")), k.s.Prepare(waits, "w"))
	tells("1(1, 'a') 1(2, 'b') 1(3, 'c') 1(4, 'd')")
	over := k.writes("t", r(7, "g"))
	k.ok(k.s.Update(over, "t", r(4, "over")))
	tells("1(1, 'a') 1(2, 'b') 1(3, 'c') 1(4, 'd')")
	k.ok(k.s.Abort(over))
	tells("1(1, 'a') 1(2, 'b') 1(3, 'c') 1(4, 'd')")
	parts := k.writes("t", r(8, "h"))
	k.ok(k.s.Savepoint(parts, "s"), k.s.Update(parts, "t", r(8, "i")), k.s.Insert(parts, "t", r(9, "j")), k.s.RollbackTo(parts, "s"), k.s.Delete(parts, "t", v(4)), k.s.Release(parts, "s"))
	tells("1(1, 'a') 1(2, 'b') 1(3, 'c') 1(4, 'd')")
	_, e := k.s.Commit(parts)
	k.ok(e)
	tells("1(1, 'a') 1(2, 'b') 1(3, 'c') 1(8, 'h')")
	_, e = k.s.CommitPrepared("w")
	k.ok(e)
	tells("1(1, 'a') 1(2, 'b') 1(3, 'waits') 1(6, 'f') 1(8, 'h')")
	_, e = k.s.Commit(open)
	k.ok(e)
	tells("1(1, 'open') 1(3, 'waits') 1(5, 'e') 1(6, 'f') 1(8, 'h')")
	_, e = k.s.EmptyTable("t")
	k.ok(e)
	k.exports(all("t"), "from t.1.1(id*, name) to")
	k.put("t", r(1, "z"))
	tells("1(1, 'z')")
	k.crash()
	tells("1(1, 'z')")
}

// TestExportBehindCrash: what lasted, and of what waits nothing till it is committed.
func TestExportBehindCrash(t *testing.T) {
	for _, tenths := range []int{0, 10} {
		k := newDesk(t, r(1, "a"))
		waits := k.writes("t", r(2, "b"))
		k.ok(k.s.Prepare(waits, "w"))
		k.writes("t", r(3, "c"))
		k.crashKeeping(tenths)
		k.exports(all("t"), "from t.1.1(id*, name) 1(1, 'a') to")
		_, e := k.s.CommitPrepared("w")
		k.ok(e)
		k.exports(all("t"), "from t.1.1(id*, name) 1(1, 'a') 1(2, 'b') to")
		_, e = k.s.Checkpoint()
		k.ok(e)
		k.crash()
		k.exports(all("t"), "from t.1.1(id*, name) 1(1, 'a') 1(2, 'b') to")
	}
}

// TestExportWidened: rows that were written ahead of a further column have null there.
func TestExportWidened(t *testing.T) {
	k := newDesk(t, r(1, "a"))
	_, e := k.s.WidenTable("t", columns("flag b?")[0])
	k.ok(e)
	k.put("t", r(2, "b", true), r(3))
	k.exports(all("t"), "from t.1.2(id*, name, flag) 1(1, 'a', null) 1(2, 'b', true) 1(3, null, null) to")
	k.exports(pub(some("t", "flag is null", "flag")), "from t.1.2(id*, flag) 1(1, null) 1(3, null) to")
}

// TestExportPlace: the copy's position is up to where the log lasts, not where it ends.
func TestExportPlace(t *testing.T) {
	k := newDesk(t, r(1, "a"))
	place := func() int {
		t.Helper()
		l, lsn, e := copying.Export(k.s, all("t"))
		k.ok(e)
		k.is("its position", lsn, k.s.Log().Flushed())
		k.is("its first and last message", fmt.Sprint(l[:1], l[len(l)-1:]), fmt.Sprint(laid(t, from(lsn)), laid(t, to(lsn))))
		return lsn
	}
	k.is("where all lasts", place(), k.s.Log().End())
	lasts := place()
	x := k.writes("t", r(2, "b"), r(3, "c"))
	k.is("beside an open transaction", place(), lasts)
	if k.s.Log().End() <= lasts {
		t.Error("it has logged nothing")
	}
	k.ok(k.s.Prepare(x, "w"))
	k.is("behind one that waits", place(), k.s.Log().End())
	lasts = place()
	k.ok(k.s.Abort(k.writes("t", r(4, "d"))))
	k.is("behind one that was aborted", place(), lasts)
	commit, e := k.s.CommitPrepared("w")
	k.ok(e)
	if at := place(); at <= commit || at != k.s.Log().End() {
		t.Errorf("behind a commit at %d: %d", commit, at)
	}
	k.crash()
	k.is("behind a crash", place(), k.s.Log().End())
}

// TestExportPlaceAtTurn: where a log's record begins a new segment, all ahead of that lasts, be it of a transaction that is open.
func TestExportPlaceAtTurn(t *testing.T) {
	k := newDesk(t, r(1, "a"))
	lasts := k.s.Log().Flushed()
	x := k.begins()
	for i := 2; k.s.Log().Flushed() == lasts; i++ {
		k.exports(all("t"), "from t.1.1(id*, name) 1(1, 'a') to")
		k.ok(k.s.Insert(x, "t", r(i, full)))
	}
	_, lsn, _ := copying.Export(k.s, all("t"))
	k.is("its position", lsn, 16384)
	k.exports(all("t"), "from t.1.1(id*, name) 1(1, 'a') to")
}

// TestExportNoAct: a copy costs no act, of a disk whose next act is its last, and of one whose next Sync fails.
func TestExportNoAct(t *testing.T) {
	k := newDesk(t, r(1, "a"))
	k.writes("t", r(2, "b"))
	want := "from t.1.1(id*, name) 1(1, 'a') to"
	k.is("acts", k.acting(func() { k.exports(all("t"), want) }), 0)
	// The store does not know yet that its disk is dead.
	k.exports(all("t"), want)
	k.ok(k.d.Crash(nil), k.d.FailSync(1))
	k.exports(all("t"), want)
	k.is("the Sync behind it", k.d.Sync("base"), api.ErrFileSync)
}

// TestExportInDoubt: the publication is looked at first; then the doubt is told.
func TestExportInDoubt(t *testing.T) {
	for _, dead := range []bool{true, false} {
		k := newDesk(t, r(1, "a"))
		if dead {
			k.ok(k.d.Arm(1))
		} else {
			k.ok(k.d.FailSync(1))
		}
		want := api.ErrStoreDoubt
		if dead {
			want = api.ErrDead
		}
		if _, e := k.s.CreateTable("u", columns("id i"), 0); e != want {
			t.Fatalf("CreateTable: %d", e)
		}
		for range 2 {
			k.exportsNot(all("t"), want)
			k.exportsNot(all("none"), want)
			k.exportsNot(all("t", "t"), api.ErrPublishForm)
			k.exportsNot(pub(), api.ErrPublishForm)
		}
		k.ok(k.d.Crash(nil))
		k.exportsNot(all("t"), api.ErrStoreDoubt)
		k = on(t, k.d)
		k.exports(all("t"), "from t.1.1(id*, name) 1(1, 'a') to")
	}
}

// TestExportIsACopy: what is told is a copy by the words, message by message.
func TestExportIsACopy(t *testing.T) {
	k := newDesk(t, r(1, "a"), r(2, "b"))
	k.create("u", 1, "n i?", "id t")
	k.put("u", r(1, "x"))
	l, lsn, _ := copying.Export(k.s, pub(some("u", ""), some("none", ""), some("t", "id > 1", "id")))
	want := laid(t, from(lsn), head(withKey(told(2, "u", "n i?", "id t"), 1)), row(2, 1, "x"), head(told(1, "t", "id i")), row(1, 2), to(lsn))
	if !slices.Equal(l, want) {
		t.Errorf("%q, want %q", l, want)
	}
	for _, s := range l {
		if _, e := publish.Decode(s); e != api.OK {
			t.Errorf("Decode(%x): %d", s, e)
		}
	}
}
