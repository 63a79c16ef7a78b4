package publish_test

import (
	"math"
	"slices"
	"testing"

	"confluence/api"
)

// begun is a publisher within a transaction of which something is told already, of another table.
func begun(t *testing.T, p api.Publication) *bench {
	t.Helper()
	p.Tables = append(slices.Clone(p.Tables), api.Published{Table: "warm", Kinds: 15})
	x := made(t, p)
	x.begin()
	warm := changed(func(x *api.Table) { x.ID, x.Name = 99, "warm" })
	x.tells("the first", warm, api.Change{Kind: api.RecEmpty, Table: 99}, msgBegin(), msgTable(warm), api.Message{Kind: api.MsgEmpty, Table: 99})
	return x
}

func TestU5EachKind(t *testing.T) {
	a, b := row(1, "a"), row(1, "b")
	for _, c := range []struct {
		change api.Change
		want   api.Message
	}{{inserted(a), msgInsert(a)}, {updated(a, b), msgUpdate(a, b)}, {updated(a, a), msgUpdate(a, a)}, {deleted(b), msgDelete(b)}, {emptied(), msgEmpty()}} {
		x := made(t, only(15, ""))
		x.begin()
		x.tells("the first", thing(), c.change, msgBegin(), msgTable(thing()), c.want)
		x.tells("the next", thing(), c.change, c.want)
		x.commits(9001, msgCommit(9001))
	}
}

// TestU5Kinds has each set of kinds.
func TestU5Kinds(t *testing.T) {
	a, b := row(1, "a"), row(1, "b")
	for kinds := 1; kinds <= 15; kinds++ {
		x := made(t, only(kinds, ""))
		x.begin()
		ahead := []api.Message{msgBegin(), msgTable(thing())}
		told := func(kind int, c api.Change, m api.Message) {
			t.Helper()
			if kinds&kind == 0 {
				x.tells("not published", thing(), c)
				return
			}
			x.tells("published", thing(), c, append(ahead, m)...)
			ahead = nil
		}
		for range 2 {
			told(api.PubInsert, inserted(a), msgInsert(a))
			told(api.PubUpdate, updated(a, b), msgUpdate(a, b))
			told(api.PubDelete, deleted(b), msgDelete(b))
			told(api.PubEmpty, emptied(), msgEmpty())
		}
		x.commits(9001, msgCommit(9001))
	}
}

// TestU5InAndOut: an update is told by PubUpdate alone, also where it is told as an insert or a delete.
func TestU5InAndOut(t *testing.T) {
	in, other, out := row(1, "in"), api.Row{number(1), text("in"), yes}, row(1, "out")
	for kinds := 1; kinds <= 15; kinds++ {
		x := made(t, only(kinds, "name = 'in'"))
		x.begin()
		ahead := []api.Message{msgBegin(), msgTable(thing())}
		told := func(kind int, c api.Change, l ...api.Message) {
			t.Helper()
			if kinds&kind == 0 || len(l) == 0 {
				x.tells("nothing", thing(), c)
				return
			}
			x.tells("something", thing(), c, append(ahead, l...)...)
			ahead = nil
		}
		told(api.PubInsert, inserted(out))
		told(api.PubUpdate, updated(out, out))
		told(api.PubDelete, deleted(out))
		told(api.PubUpdate, updated(in, out), msgDelete(in))
		told(api.PubUpdate, updated(out, in), msgInsert(in))
		told(api.PubUpdate, updated(in, other), msgUpdate(in, other))
		told(api.PubInsert, inserted(in), msgInsert(in))
		told(api.PubDelete, deleted(other), msgDelete(other))
		told(api.PubEmpty, emptied(), msgEmpty())
	}
}

// TestU5Filters: what is false, null or an error does not fit; the whole row is asked.
func TestU5Filters(t *testing.T) {
	in, unknown, no := api.Row{number(1), text("7"), yes}, api.Row{number(1), null, null}, api.Row{number(1), text(full), no}
	shown := api.Row{number(1)}
	for _, filter := range []string{
		"name = '7'",
		"length(name) < 100 and flag",
		"case when flag then true when not flag then 1 / 0 = 1 end", // an error of what is divided
		"(name || name) <> ''", // one of a Text that is too long
		"case when name is null then null when flag then true else -id - 9223372036854775807 - 1 = 0 end", // one of a number
	} {
		x := begun(t, only(15, filter, "none"))
		x.tells(filter+": null", thing(), inserted(unknown))
		x.tells(filter+": null", thing(), deleted(unknown))
		x.tells(filter+": false, or an error", thing(), inserted(no))
		x.tells(filter+": false, or an error", thing(), deleted(no))
		x.tells(filter+": neither", thing(), updated(no, unknown))
		x.tells(filter+": true", thing(), inserted(in), msgTable(cut(thing(), 0, 0)), msgInsert(shown))
		x.tells(filter+": to null", thing(), updated(in, unknown), msgDelete(shown))
		x.tells(filter+": to false", thing(), updated(in, no), msgDelete(shown))
		x.tells(filter+": from null", thing(), updated(unknown, in), msgInsert(shown))
		x.tells(filter+": from false", thing(), updated(no, in), msgInsert(shown))
		x.tells(filter+": true to true", thing(), updated(in, in), msgUpdate(shown, shown))
		x.tells(filter+": true", thing(), deleted(in), msgDelete(shown))
		x.tells(filter+": it is not asked", thing(), emptied(), msgEmpty())
	}
}

// TestU5FiltersThatNothingFits: that the table is emptied is told all the same.
func TestU5FiltersThatNothingFits(t *testing.T) {
	a, b := api.Row{number(1), text("a"), yes}, api.Row{number(1), null, null}
	for _, filter := range []string{"false", "null = 1", "1 / 0 = 1", "id / 0 = 1", "flag and null", "id + 9223372036854775807 > 1", "not true"} {
		x := begun(t, only(15, filter))
		for _, r := range []api.Row{a, b} {
			x.tells(filter, thing(), inserted(r))
			x.tells(filter, thing(), updated(a, r))
			x.tells(filter, thing(), deleted(r))
		}
		x.tells(filter, thing(), emptied(), msgTable(thing()), msgEmpty())
	}
}

// TestU5NotPublished: tables that have no view are not told, whatever is changed.
func TestU5NotPublished(t *testing.T) {
	for _, p := range []api.Publication{only(15, "id"), only(15, "null"), only(15, "none = 1"), only(15, "id = 'a'"), pub(api.Published{Table: "u", Kinds: 15})} {
		x := begun(t, p)
		for _, c := range []api.Change{inserted(row(1, "a")), updated(row(1, "a"), row(1, "b")), deleted(row(1, "a")), emptied()} {
			x.tells("not published", thing(), c)
		}
	}
}

func TestU5Columns(t *testing.T) {
	full := api.Table{ID: 4, Version: 1, Name: "t", Columns: columns(8), Key: 6}
	from := api.Row{number(1), text("a"), no, number(4), text("e"), yes, number(7), text("h")}
	to := api.Row{number(2), null, yes, null, text(""), null, number(7), null}
	for _, c := range []struct {
		named  []string
		key    int
		places []int
	}{{nil, 6, []int{0, 1, 2, 3, 4, 5, 6, 7}}, {[]string{"cg"}, 0, []int{6}}, {[]string{"none"}, 0, []int{6}}, {[]string{"ch", "ca"}, 1, []int{0, 6, 7}}, {[]string{"cb", "none", "cf", "cg"}, 2, []int{1, 5, 6}}, {[]string{"ch"}, 0, []int{6, 7}}} {
		pick := func(r api.Row) api.Row {
			var out api.Row
			for _, i := range c.places {
				out = append(out, r[i])
			}
			return out
		}
		x := begun(t, only(15, "", c.named...))
		x.tells("an insert", full, inserted(from), msgTable(cut(full, c.key, c.places...)), msgInsert(pick(from)))
		x.tells("an update", full, updated(from, to), msgUpdate(pick(from), pick(to)))
		x.tells("a delete", full, deleted(to), msgDelete(pick(to)))
	}
	// The filter may ask columns that are not shown.
	x := begun(t, only(15, "cc", "ca"))
	x.tells("it does not fit", full, inserted(from))
	x.tells("it does then", full, updated(from, to), msgTable(cut(full, 1, 0, 6)), msgInsert(api.Row{number(2), number(7)}))
}

func TestU5WrongTables(t *testing.T) {
	x := begun(t, only(15, ""))
	for _, y := range wrongTables() {
		for _, c := range []api.Change{inserted(row(1, "a")), updated(row(1, "a"), row(1, "b")), deleted(row(1, "a")), emptied()} {
			c.Table = y.ID
			x.refuses("no table", y, c, api.ErrArg)
		}
	}
	for _, n := range append([]int{1, 3, 5, last}, noNumbers...) {
		for _, c := range []api.Change{inserted(row(1, "a")), updated(row(1, "a"), row(1, "b")), deleted(row(1, "a")), emptied()} {
			c.Table = n
			x.refuses("another number", thing(), c, api.ErrArg)
		}
	}
	x.tells("nothing was told of it", thing(), emptied(), msgTable(thing()), msgEmpty())
}

func TestU5WrongKinds(t *testing.T) {
	x := begun(t, only(15, ""))
	for kind := -2; kind < 300; kind++ {
		if !slices.Contains([]int{3, 4, 5, 14}, kind) {
			x.refuses("no kind", thing(), api.Change{Kind: kind, Table: 4, Old: row(1, "a"), New: row(1, "b")}, api.ErrArg)
		}
	}
	for _, kind := range []int{math.MinInt, math.MaxInt, 1<<32 + 3, math.MinInt + 3} {
		x.refuses("no kind", thing(), api.Change{Kind: kind, Table: 4, Old: row(1, "a"), New: row(1, "b")}, api.ErrArg)
	}
}

// noRowsOfThing do not fit it, or not as they are.
func noRowsOfThing() []api.Row {
	l := []api.Row{nil, {}, {number(1)}, {number(1), text("a")}, {number(1), text("a"), null, null}, {null, text("a"), null}, {text("1"), text("a"), null}, {number(1), number(2), null}, {number(1), yes, null}, {number(1), null, number(1)}, {number(1), null, text("")}, {number(1), text(full + "x"), null}, sevens(9), sevens(300)}
	for _, v := range []api.Value{{Kind: 4}, {Kind: -1}, {N: 1}, {S: "x"}, {Kind: api.Int, N: 1, S: "x"}, {Kind: api.Text, N: 1}, {Kind: api.Bool, N: 2}} {
		l = append(l, api.Row{v, null, null}, api.Row{number(1), v, null}, api.Row{number(1), null, v})
	}
	return l
}

func TestU5WrongRows(t *testing.T) {
	x := begun(t, only(15, "", "id"))
	for _, r := range noRowsOfThing() {
		x.refuses("New of an insert", thing(), inserted(r), api.ErrArg)
		x.refuses("Old of an update", thing(), updated(r, row(1, "a")), api.ErrArg)
		x.refuses("New of an update", thing(), updated(row(1, "a"), r), api.ErrArg)
		x.refuses("both of an update", thing(), updated(r, r), api.ErrArg)
		x.refuses("Old of a delete", thing(), deleted(r), api.ErrArg)
	}
	shown := api.Row{number(1)}
	x.tells("nothing was told of it", thing(), inserted(row(1, "a")), msgTable(cut(thing(), 0, 0)), msgInsert(shown))
	// Rows that a kind has not are not looked at.
	for _, r := range append(noRowsOfThing(), row(2, "b"), row(1, "a")) {
		x.tells("Old of an insert", thing(), api.Change{Kind: api.RecInsert, Table: 4, Old: r, New: row(1, "a")}, msgInsert(shown))
		x.tells("New of a delete", thing(), api.Change{Kind: api.RecDelete, Table: 4, Old: row(1, "a"), New: r}, msgDelete(shown))
		x.tells("rows of RecEmpty", thing(), api.Change{Kind: api.RecEmpty, Table: 4, Old: r, New: r}, msgEmpty())
	}
	// Nor are its Xid and Lsn.
	for _, n := range []int{0, -1, 6, last + 1, math.MinInt, math.MaxInt} {
		x.tells("any Xid and Lsn", thing(), api.Change{Kind: api.RecInsert, Table: 4, Lsn: n, Xid: n, New: row(1, "a")}, msgInsert(shown))
	}
}

func TestU5AnotherKey(t *testing.T) {
	x := begun(t, only(15, "flag", "name"))
	x.refuses("another Int", thing(), updated(row(1, "a"), row(2, "a")), api.ErrArg)
	x.refuses("another Int", thing(), updated(row(1, "a"), row(-1, "a")), api.ErrArg)
	x.tells("the same", thing(), updated(row(1, "a"), row(1, "b")))
	late := api.Table{ID: 4, Version: 1, Name: "t", Columns: []api.Column{{Name: "flag", Kind: api.Bool}, {Name: "k", Kind: api.Text}, {Name: "id", Kind: api.Int}}, Key: 1}
	r := func(k string, id int) api.Row { return api.Row{yes, text(k), number(id)} }
	x.refuses("another Text", late, updated(r("a", 1), r("b", 1)), api.ErrArg)
	x.refuses("a longer Text", late, updated(r("a", 1), r("aa", 1)), api.ErrArg)
	x.refuses("an empty Text", late, updated(r("a", 1), r("", 1)), api.ErrArg)
	view := late
	view.Columns, view.Key = late.Columns[1:2], 0
	x.tells("the same", late, updated(r("a", 1), r("a", 2)), msgTable(view), msgUpdate(api.Row{text("a")}, api.Row{text("a")}))
}
