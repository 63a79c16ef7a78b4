package store_test

import (
	"fmt"
	"slices"
	"testing"

	"confluence/api"
	"confluence/record"
	"confluence/store"
)

// Records, as the tests write them down.
func begins(x int) api.Rec             { return api.Rec{Kind: api.RecBegin, Xid: x} }
func parts(x, of int) api.Rec          { return api.Rec{Kind: api.RecPart, Xid: x, Parent: of} }
func releases(x int) api.Rec           { return api.Rec{Kind: api.RecRelease, Xid: x} }
func backs(x int) api.Rec              { return api.Rec{Kind: api.RecBack, Xid: x} }
func commits(x int) api.Rec            { return api.Rec{Kind: api.RecCommit, Xid: x} }
func aborts(x int) api.Rec             { return api.Rec{Kind: api.RecAbort, Xid: x} }
func prepares(x int, n string) api.Rec { return api.Rec{Kind: api.RecPrepare, Xid: x, Name: n} }
func inserts(x, table int, l ...any) api.Rec {
	return api.Rec{Kind: api.RecInsert, Xid: x, Table: table, New: r(l...)}
}
func updates(x, table int, old, now api.Row) api.Rec {
	return api.Rec{Kind: api.RecUpdate, Xid: x, Table: table, Old: old, New: now}
}
func deletes(x, table int, l ...any) api.Rec {
	return api.Rec{Kind: api.RecDelete, Xid: x, Table: table, Old: r(l...)}
}
func commitsFrom(x int, name string, lsn int) api.Rec {
	return api.Rec{Kind: api.RecCommit, Xid: x, Name: name, Origin: lsn}
}
func creates(x int, t api.Table) api.Rec { return api.Rec{Kind: api.RecCreate, Xid: x, Tab: t} }
func widens(x int, t api.Table) api.Rec  { return api.Rec{Kind: api.RecWiden, Xid: x, Tab: t} }
func drops(x, table int) api.Rec         { return api.Rec{Kind: api.RecDrop, Xid: x, Table: table} }
func empties(x, table int) api.Rec       { return api.Rec{Kind: api.RecEmpty, Xid: x, Table: table} }
func checks(x, table int, l ...api.Table) api.Rec {
	return api.Rec{Kind: api.RecCheckpoint, Xid: x, Table: table, Tabs: l}
}

// The table t as it is made first, and as it is widened.
var (
	narrow = table(1, 1, "t", two, 0)
	wider  = table(1, 2, "t", append(slices.Clone(two), more), 0)
)

// upTo are several records; each of these has been tried as a log that can be done.
type upTo []api.Rec

func (l upTo) and(more ...api.Rec) upTo { return slices.Concat(l, more) }

// many begins transactions with these numbers, both included.
func (l upTo) many(from, to int) upTo {
	for x := from; x <= to; x++ {
		l = l.and(begins(x))
	}
	return l
}

// disk has an empty base, and these records in its log behind it.
func (l upTo) open(t *testing.T) (*store.Store, api.Errno) {
	t.Helper()
	return store.Open(baseOf(8192, checks(1, 1), nil, nil).disk(t, append([]api.Rec{checks(1, 1)}, l...)...))
}

func words(l []api.Rec) string {
	out := ""
	for _, x := range l {
		out += record.Print(x) + "; "
	}
	return out
}

// can: a log of these records is opened.
func (l upTo) can(t *testing.T, last ...api.Rec) *desk {
	t.Helper()
	s, e := l.and(last...).open(t)
	if s == nil || e != api.OK {
		t.Fatalf("%s: Open: %d", words(l.and(last...)), e)
	}
	return &desk{t: t, d: s.Disk(), s: s, seen: s.Log().End()}
}

// cant: behind these, which can be done, none of the last ones can be.
func (l upTo) cant(t *testing.T, last ...api.Rec) {
	t.Helper()
	if _, e := l.open(t); e != api.OK {
		t.Fatalf("%s: Open: %d", words(l), e)
	}
	for _, x := range last {
		if s, e := l.and(x).open(t); s != nil || e != api.ErrStoreForm {
			t.Errorf("%s then %s: Open: %v, %d", words(l), record.Print(x), s != nil, e)
		}
	}
}

// each: behind these each of the last ones can be done.
func (l upTo) each(t *testing.T, last ...api.Rec) {
	t.Helper()
	for _, x := range last {
		l.can(t, x)
	}
}

// base0 has the table t, which is empty; the next number is 2.
var base0 = upTo{creates(1, narrow)}

// base1 has a committed row of it; the next number is 3.
var base1 = base0.and(begins(2), inserts(2, 1, 5, "a"), commits(2))

func TestS3Begin(t *testing.T) {
	base0.each(t, begins(2))
	base0.cant(t, begins(1), begins(3), begins(lastXid))
	l := base0.many(2, 32) // 31
	l.each(t, begins(33))
	l.and(begins(33)).cant(t, begins(34))
	l.and(prepares(7, "w"), begins(33)).cant(t, begins(34))
	l.and(prepares(7, "w"), begins(33), aborts(8)).each(t, begins(34))
	l.and(prepares(7, "w"), begins(33), commits(7)).each(t, begins(34))
	l.and(begins(33), parts(34, 33), drops(35, 1), aborts(2)).cant(t, begins(34), begins(35))
	l.and(begins(33), parts(34, 33), drops(35, 1), aborts(2)).each(t, begins(36))
}

func TestS3Part(t *testing.T) {
	l := base0.and(begins(2), parts(3, 2), parts(4, 3), begins(5), parts(6, 5))
	l.each(t, parts(7, 2), parts(7, 3), parts(7, 4), parts(7, 5), parts(7, 6))
	l.cant(t, parts(8, 2), parts(6, 2), parts(5, 3), parts(7, 1))
	l.and(releases(3)).cant(t, parts(7, 3), parts(7, 4))
	l.and(releases(3)).each(t, parts(7, 2))
	l.and(backs(4)).cant(t, parts(7, 4))
	l.and(backs(4)).each(t, parts(7, 3))
	l.and(prepares(2, "w")).cant(t, parts(7, 2), parts(7, 3))
	l.and(aborts(2)).cant(t, parts(7, 2), parts(7, 3))
	l.and(commits(2)).cant(t, parts(7, 2), parts(7, 4))
	l = base0.and(begins(2))
	for i := range 63 {
		l = l.and(parts(3+i, 2+i)) // 63 within one another: there is no bound on that
	}
	l.each(t, parts(66, 2), parts(66, 65))
	l.and(parts(66, 2)).cant(t, parts(67, 2), parts(67, 66))
	l.and(parts(66, 2), backs(3)).cant(t, parts(67, 2))
}

func TestS3Insert(t *testing.T) {
	l := base1.and(begins(3), parts(4, 3), parts(5, 4), begins(6))
	l.each(t, inserts(3, 1, 1, "a"), inserts(4, 1, 1, nil), inserts(5, 1, 1, ""), inserts(6, 1, 1, nil))
	l.cant(t, inserts(1, 1, 1, "a"), inserts(2, 1, 1, "a"), inserts(7, 1, 1, "a"), inserts(lastXid, 1, 1, "a"))
	l.cant(t, inserts(3, 2, 1, "a"), inserts(3, lastXid, 1, "a"))
	l.cant(t, inserts(3, 1, 1), inserts(3, 1, 1, "a", nil), inserts(3, 1, nil, "a"), inserts(3, 1, "1", "a"), inserts(3, 1, 1, 2), inserts(3, 1, true, nil))
	l.cant(t, inserts(3, 1, 5, "b"), inserts(4, 1, 5, nil))
	l.and(inserts(4, 1, 1, "a")).cant(t, inserts(3, 1, 1, "a"), inserts(5, 1, 1, "a"), inserts(6, 1, 1, "a"))
	l.and(inserts(4, 1, 1, "a"), backs(4)).each(t, inserts(3, 1, 1, "a"), inserts(6, 1, 1, "a"))
	l.and(inserts(4, 1, 1, "a"), commits(3)).cant(t, inserts(6, 1, 1, "a"))
	l.and(inserts(4, 1, 1, "a"), prepares(3, "w")).cant(t, inserts(6, 1, 1, "a"))
	l.and(inserts(4, 1, 1, "a"), aborts(3)).each(t, inserts(6, 1, 1, "a"))
	l.and(inserts(4, 1, 1, "a"), commits(3), begins(7)).cant(t, inserts(7, 1, 1, "a"))
	l.and(inserts(4, 1, 1, "a"), deletes(3, 1, 1, "a"), commits(3), begins(7)).each(t, inserts(7, 1, 1, "a"))
	l.and(inserts(4, 1, 1, "a"), deletes(3, 1, 1, "a"), commits(3), begins(7)).cant(t, inserts(6, 1, 1, "a"))
	// A part that was released is Open as its transaction is; one that was taken back is not.
	l.and(releases(4)).each(t, inserts(4, 1, 1, "a"), inserts(5, 1, 1, "a"))
	l.and(backs(4)).cant(t, inserts(4, 1, 1, "a"), inserts(5, 1, 1, "a"))
	l.and(prepares(3, "w")).cant(t, inserts(3, 1, 1, "a"), inserts(4, 1, 1, "a"))
	l.and(aborts(3)).cant(t, inserts(3, 1, 1, "a"), inserts(5, 1, 1, "a"))
	l.and(commits(3)).cant(t, inserts(3, 1, 1, "a"), inserts(5, 1, 1, "a"))
	// of a table that is dropped, and one that is widened
	l.and(drops(7, 1)).cant(t, inserts(3, 1, 1, "a"))
	l.and(widens(7, wider)).cant(t, inserts(3, 1, 1, "a"), inserts(3, 1, 5, nil, nil))
	l.and(widens(7, wider)).each(t, inserts(3, 1, 1, "a", nil), inserts(3, 1, 1, nil, true))
	l.and(empties(7, 1)).each(t, inserts(3, 1, 5, "a"))
}

func TestS3Update(t *testing.T) {
	l := base1.and(begins(3), parts(4, 3), begins(5))
	a, b := r(5, "a"), r(5, "b")
	l.each(t, updates(3, 1, a, b), updates(4, 1, a, b), updates(5, 1, a, a))
	l.cant(t, updates(3, 1, b, b), updates(3, 1, r(5), b), updates(3, 1, r(5, "a", nil), b), updates(3, 1, r(6, "a"), b), updates(3, 1, r(5, nil), b), updates(3, 1, r("a"), b))
	l.cant(t, updates(3, 1, a, r(5)), updates(3, 1, a, r(5, "b", nil)), updates(3, 1, a, r(5, 5)), updates(3, 1, a, r(nil, "b")))
	l.cant(t, updates(3, 1, a, r(6, "a")), updates(3, 1, r(6, "a"), r(6, "a")), updates(3, 2, a, b), updates(2, 1, a, b), updates(6, 1, a, b))
	l.and(updates(4, 1, a, b)).cant(t, updates(5, 1, a, b), updates(5, 1, b, a), updates(3, 1, a, b))
	l.and(updates(4, 1, a, b)).each(t, updates(3, 1, b, a))
	l.and(updates(4, 1, a, b), backs(4)).each(t, updates(3, 1, a, b), updates(5, 1, a, b))
	l.and(updates(4, 1, a, b), backs(4)).cant(t, updates(3, 1, b, a))
	l.and(updates(4, 1, a, b), commits(3), begins(6)).each(t, updates(6, 1, b, a))
	l.and(updates(4, 1, a, b), commits(3), begins(6)).cant(t, updates(6, 1, a, b), updates(5, 1, b, a), updates(5, 1, a, b))
	l.and(deletes(3, 1, 5, "a")).cant(t, updates(3, 1, a, b), updates(5, 1, a, b))
	l.and(prepares(3, "w")).cant(t, updates(3, 1, a, b))
	// Old is filled up for the table as it is then.
	l.and(widens(6, wider)).cant(t, updates(3, 1, a, r(5, "b", true)), updates(3, 1, r(5, "a", nil), b), updates(3, 1, r(5, "a", true), r(5, "b", true)))
	l.and(widens(6, wider)).each(t, updates(3, 1, r(5, "a", nil), r(5, "b", true)))
	l.and(empties(6, 1)).cant(t, updates(3, 1, a, b))
}

func TestS3Delete(t *testing.T) {
	l := base1.and(begins(3), parts(4, 3), begins(5))
	l.each(t, deletes(3, 1, 5, "a"), deletes(4, 1, 5, "a"), deletes(5, 1, 5, "a"))
	l.cant(t, deletes(3, 1, 5), deletes(3, 1, 5, "b"), deletes(3, 1, 5, nil), deletes(3, 1, 5, "a", nil), deletes(3, 1, 6, "a"), deletes(3, 1, nil, "a"), deletes(3, 1, "5", "a"), deletes(3, 1, true, "a"))
	l.cant(t, deletes(3, 2, 5, "a"), deletes(2, 1, 5, "a"), deletes(6, 1, 5, "a"))
	l.and(deletes(4, 1, 5, "a")).cant(t, deletes(3, 1, 5, "a"), deletes(5, 1, 5, "a"))
	l.and(deletes(4, 1, 5, "a"), backs(4)).each(t, deletes(3, 1, 5, "a"), deletes(5, 1, 5, "a"))
	l.and(updates(5, 1, r(5, "a"), r(5, "b"))).cant(t, deletes(3, 1, 5, "a"), deletes(3, 1, 5, "b"), deletes(5, 1, 5, "a"))
	l.and(updates(5, 1, r(5, "a"), r(5, "b"))).each(t, deletes(5, 1, 5, "b"))
	l.and(widens(6, wider)).cant(t, deletes(3, 1, 5, "a"), deletes(3, 1, 5, "a", true))
	l.and(widens(6, wider)).each(t, deletes(3, 1, 5, "a", nil))
	// a key that is not the first column, and rows that do not reach to it
	u := table(2, 1, "u", []api.Column{{Name: "n", Kind: api.Bool, Null: true}, {Name: "k", Kind: api.Text}}, 1)
	m := base0.and(creates(2, u), begins(3), inserts(3, 2, true, "k"))
	m.cant(t, deletes(3, 2, true), deletes(3, 2, "k"), deletes(3, 2, "k", true), deletes(3, 2, true, nil))
	m.each(t, deletes(3, 2, true, "k"))
}

func TestS3EndsOfParts(t *testing.T) {
	l := base0.and(begins(2), parts(3, 2), parts(4, 3), begins(5), parts(6, 5))
	for _, ends := range []func(int) api.Rec{releases, backs} {
		l.each(t, ends(3), ends(4), ends(6))
		l.cant(t, ends(1), ends(2), ends(5), ends(7), ends(lastXid))
		l.and(releases(3)).cant(t, ends(3), ends(4))
		l.and(backs(3)).cant(t, ends(3), ends(4))
		l.and(releases(4)).cant(t, ends(4))
		l.and(releases(4)).each(t, ends(3))
		for _, over := range []api.Rec{prepares(2, "w"), commits(2), aborts(2)} {
			l.and(over).cant(t, ends(3), ends(4))
			l.and(over).each(t, ends(6))
		}
	}
	k := base0.and(begins(2), inserts(2, 1, 1, "a"), parts(3, 2), inserts(3, 1, 2, "b"), parts(4, 3), inserts(4, 1, 3, "c"), releases(4), backs(3), parts(5, 2), inserts(5, 1, 4, "d"), releases(5)).can(t, commits(2))
	k.sees(0, "(1, 'a') (4, 'd')")
}

func TestS3Prepare(t *testing.T) {
	l := base0.and(begins(2), parts(3, 2), begins(4), prepares(4, "w"))
	l.each(t, prepares(2, "v"))
	l.cant(t, prepares(2, "w"), prepares(3, "v"), prepares(4, "v"), prepares(4, "w"), prepares(1, "v"), prepares(5, "v"))
	l.and(commits(4)).each(t, prepares(2, "w"))
	l.and(aborts(4)).each(t, prepares(2, "w"))
	l.and(commits(2)).cant(t, prepares(2, "v"))
	l.and(aborts(2)).cant(t, prepares(2, "v"))
	k := l.can(t, prepares(2, "a"))
	k.is("Prepared", k.s.Prepared(), []string{"a", "w"})
	k.is("Active", len(k.s.Active()), 0)
}

func TestS3Ends(t *testing.T) {
	l := base0.and(begins(2), parts(3, 2), begins(4), prepares(4, "w"), begins(5))
	for _, ends := range []func(int) api.Rec{commits, aborts} {
		l.each(t, ends(2), ends(4), ends(5))
		l.cant(t, ends(1), ends(3), ends(6), ends(lastXid))
		l.and(commits(2), aborts(4)).cant(t, ends(2), ends(3), ends(4))
		l.and(aborts(2), commits(4)).cant(t, ends(2), ends(3), ends(4))
	}
	k := l.and(aborts(2)).can(t, aborts(4))
	k.is("Prepared", len(k.s.Prepared()), 0)
	k = l.and(commits(4)).can(t)
	k.is("Prepared", len(k.s.Prepared()), 0)
	// An origin is set, whatever it was; also by one that waited.
	k = l.and(commitsFrom(2, "pub", 9000), commitsFrom(4, "other", 1)).can(t, commitsFrom(5, "pub", 8999))
	k.is("origins", fmt.Sprint(k.s.Origin("pub"), k.s.Origin("other")), "8999 1")
	k = l.and(commitsFrom(2, "pub", 9000)).can(t, commits(4))
	k.is("an origin behind a commit of none", k.s.Origin("pub"), 9000)
	k.is("an origin of no name", k.s.Origin(""), 0)
}

func TestS3Create(t *testing.T) {
	u := table(2, 1, "u", two, 0)
	base0.each(t, creates(2, u))
	base0.cant(t, creates(1, u), creates(3, u), creates(2, table(1, 1, "u", two, 0)), creates(2, table(3, 1, "u", two, 0)),
		creates(2, table(2, 2, "u", two, 0)), creates(2, table(2, 1, "t", two, 0)), creates(2, narrow), creates(2, wider))
	base0.and(drops(2, 1)).each(t, creates(3, table(2, 1, "t", two, 0)))
	base0.and(drops(2, 1)).cant(t, creates(3, narrow), creates(3, table(3, 1, "t", two, 0)))
	l := base0.many(2, 33)
	l.each(t, creates(34, u))
	l.and(creates(34, u)).cant(t, begins(35), begins(34))
	l = base0
	for i := 2; i <= 16; i++ {
		l = l.and(creates(i, table(i, 1, fmt.Sprint("t", i), two, 0)))
	}
	l.cant(t, creates(17, table(17, 1, "t17", two, 0)))
	l.and(drops(17, 3)).each(t, creates(18, table(17, 1, "t17", two, 0)))
}

func TestS3Widen(t *testing.T) {
	with := func(l ...api.Column) []api.Column { return append(slices.Clone(two), l...) }
	l := base1.and(begins(3))
	l.each(t, widens(4, wider), widens(4, table(1, 2, "t", with(api.Column{Name: "x", Kind: api.Int, Null: true}), 0)))
	l.cant(t, widens(3, wider), widens(5, wider),
		widens(4, table(2, 2, "t", wider.Columns, 0)),
		widens(4, table(1, 1, "t", wider.Columns, 0)),
		widens(4, table(1, 3, "t", wider.Columns, 0)),
		widens(4, table(1, 2, "u", wider.Columns, 0)),
		widens(4, narrow),
		widens(4, table(1, 2, "t", two, 0)),
		widens(4, table(1, 2, "t", two[:1], 0)),
		widens(4, table(1, 2, "t", []api.Column{two[0], more}, 0)),
		widens(4, table(1, 2, "t", with(more, api.Column{Name: "x", Kind: api.Int, Null: true}), 0)),
		widens(4, table(1, 2, "t", with(api.Column{Name: "x", Kind: api.Int}), 0)),
		widens(4, table(1, 2, "t", []api.Column{{Name: "i", Kind: api.Int}, two[1], more}, 0)),
		widens(4, table(1, 2, "t", []api.Column{two[0], {Name: "name", Kind: api.Text}, more}, 0)),
		widens(4, table(1, 2, "t", []api.Column{two[0], {Name: "name", Kind: api.Int, Null: true}, more}, 0)),
		widens(4, table(1, 2, "t", []api.Column{two[1], two[0], more}, 1)),
	)
	l = base0.and(creates(2, table(2, 1, "u", []api.Column{{Name: "a", Kind: api.Int}, {Name: "b", Kind: api.Int}}, 0)))
	l.cant(t, widens(3, table(2, 2, "u", []api.Column{{Name: "a", Kind: api.Int}, {Name: "b", Kind: api.Int}, more}, 1)))
	written(t, func(x int) api.Rec { return widens(x, wider) })
}

// written: a change of a table that somebody has written who is not over can't be.
func written(t *testing.T, changes func(int) api.Rec) {
	t.Helper()
	l := base1.and(creates(3, table(2, 1, "u", two, 0)), begins(4), parts(5, 4))
	l.each(t, changes(6))
	l.cant(t, changes(5), changes(7), changes(4))
	l.and(inserts(5, 2, 1, nil)).each(t, changes(6))
	for _, w := range []api.Rec{inserts(4, 1, 1, "a"), inserts(5, 1, 1, "a"), deletes(5, 1, 5, "a"), updates(4, 1, r(5, "a"), r(5, "a"))} {
		m := l.and(w)
		m.cant(t, changes(6))
		m.and(prepares(4, "w")).cant(t, changes(6))
		m.and(aborts(4)).each(t, changes(6))
		m.and(commits(4)).each(t, changes(6))
		m.and(prepares(4, "w"), commits(4)).each(t, changes(6))
		m.and(prepares(4, "w"), aborts(4)).each(t, changes(6))
		m.and(releases(5)).cant(t, changes(6))
		if w.Xid == 5 {
			m.and(backs(5)).each(t, changes(6))
		}
	}
	l = base0.many(2, 33)
	l.each(t, changes(34))
}

func TestS3DropAndEmpty(t *testing.T) {
	written(t, func(x int) api.Rec { return drops(x, 1) })
	written(t, func(x int) api.Rec { return empties(x, 1) })
	base1.cant(t, drops(3, 2), drops(3, lastXid), empties(3, 2), empties(3, lastXid))
	base1.and(drops(3, 1)).cant(t, drops(4, 1), empties(4, 1), widens(4, wider))
	k := base1.and(empties(3, 1), begins(4), inserts(4, 1, 5, "b")).can(t, commits(4))
	k.sees(0, "(5, 'b')")
	k = base1.and(drops(3, 1), creates(4, table(2, 1, "t", two, 0)), begins(5), inserts(5, 2, 6, "b")).can(t, commits(5))
	k.sees(0, "(6, 'b')")
}

func TestS3Checkpoint(t *testing.T) {
	base1.each(t, checks(3, 2, narrow))
	base1.cant(t, checks(2, 2, narrow), checks(4, 2, narrow), checks(3, 3, narrow), checks(3, 2), checks(3, 2, wider), checks(3, 2, table(1, 1, "u", two, 0)),
		checks(3, 3, narrow, table(2, 1, "u", two, 0)), checks(3, 1))
	l := base1.and(begins(3))
	l.cant(t, checks(4, 2, narrow))
	l.and(prepares(3, "w")).cant(t, checks(4, 2, narrow))
	l.and(prepares(3, "w"), aborts(3)).each(t, checks(4, 2, narrow))
	l.and(commits(3)).each(t, checks(4, 2, narrow))
	base1.and(widens(3, wider)).cant(t, checks(4, 2, narrow))
	base1.and(widens(3, wider)).each(t, checks(4, 2, wider))
	base1.and(drops(3, 1)).each(t, checks(4, 2))
	k := base1.and(checks(3, 2, narrow), begins(3), inserts(3, 1, 6, nil)).can(t, commits(3))
	k.sees(0, "(5, 'a') (6, null)")
	k.is("Based", k.s.Based(), 8192)
}

// TestS3LastNumbers: the last number that there is may be used; and none behind it.
func TestS3LastNumbers(t *testing.T) {
	at := func(next int, l ...api.Rec) (*store.Store, api.Errno) {
		return store.Open(baseOf(8192, checks(next, 2, narrow), nil, nil).disk(t, l...))
	}
	for _, l := range [][]api.Rec{
		{begins(lastXid)},
		{begins(lastXid - 1), parts(lastXid, lastXid-1), commits(lastXid - 1), checks(lastXid+1, 2, narrow)},
		{drops(lastXid, 1), checks(lastXid+1, 2)},
	} {
		s, e := at(l[0].Xid, l...)
		if e != api.OK {
			t.Fatalf("%s: %d", words(l), e)
		}
		if _, e := s.Begin(); e != api.ErrXactLast {
			t.Errorf("Begin behind %s: %d", words(l), e)
		}
	}
	if _, e := at(lastXid, begins(lastXid), commits(lastXid), begins(lastXid)); e != api.ErrStoreForm {
		t.Errorf("the last number twice: %d", e)
	}
}
