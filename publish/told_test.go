package publish_test

import (
	"slices"
	"testing"

	"confluence/api"
)

// TestU5TableOnce: in each transaction a table is told once, ahead of the first thing that is told of it.
func TestU5TableOnce(t *testing.T) {
	x := made(t, only(15, "id > 1"))
	for range 3 {
		x.begin()
		x.tells("nothing", thing(), inserted(row(1, "a")))
		x.tells("the first", thing(), inserted(row(2, "a")), msgBegin(), msgTable(thing()), msgInsert(row(2, "a")))
		x.tells("nothing", thing(), inserted(row(1, "a")))
		x.tells("the second", thing(), inserted(row(3, "a")), msgInsert(row(3, "a")))
		x.commits(9001, msgCommit(9001))
	}
}

// TestU5AnotherView: it is told again when it is another one, in whichever field, and again when it is as it was.
func TestU5AnotherView(t *testing.T) {
	p := pub(api.Published{Table: "t", Kinds: 15}, api.Published{Table: "u", Kinds: 15})
	for what, how := range map[string]func(*api.Table){
		"Version":            func(x *api.Table) { x.Version = 3 },
		"an earlier Version": func(x *api.Table) { x.Version = 1 },
		"Name":               func(x *api.Table) { x.Name = "u" },
		"Key":                func(x *api.Table) { x.Key = 3 },
		"a column's name":    func(x *api.Table) { x.Columns[1].Name = "other" },
		"the key's name":     func(x *api.Table) { x.Columns[0].Name = "other" },
		"a column's kind":    func(x *api.Table) { x.Columns[1].Kind = api.Int },
		"a column's null":    func(x *api.Table) { x.Columns[2].Null = false },
		"a column more":      func(x *api.Table) { x.Columns = append(x.Columns, api.Column{Name: "more", Kind: api.Int, Null: true}) },
		"a column less":      func(x *api.Table) { x.Columns = x.Columns[:2] },
		"columns' order":     func(x *api.Table) { x.Columns[1], x.Columns[2] = x.Columns[2], x.Columns[1] },
	} {
		x := made(t, p)
		x.begin()
		plain := changed(func(x *api.Table) { x.Columns = append(x.Columns, api.Column{Name: "k", Kind: api.Text}) })
		other := changed(func(x *api.Table) {
			x.Columns = append(x.Columns, api.Column{Name: "k", Kind: api.Text})
			how(x)
		})
		x.tells(what, plain, emptied(), msgBegin(), msgTable(plain), msgEmpty())
		x.tells(what, plain, emptied(), msgEmpty())
		x.tells(what, other, emptied(), msgTable(other), msgEmpty())
		x.tells(what, other, emptied(), msgEmpty())
		x.tells(what, plain, emptied(), msgTable(plain), msgEmpty())
		x.tells(what, plain, emptied(), msgEmpty())
		x.commits(9001, msgCommit(9001))
	}
}

// TestU5SameView: what is not shown of a table may be another, and its view the same.
func TestU5SameView(t *testing.T) {
	x := made(t, only(15, "", "name"))
	view := cut(thing(), 0, 0, 1)
	x.begin()
	x.tells("the first", thing(), emptied(), msgBegin(), msgTable(view), msgEmpty())
	for what, y := range map[string]api.Table{
		"its kind":      changed(func(x *api.Table) { x.Columns[2].Kind = api.Int }),
		"its name":      changed(func(x *api.Table) { x.Columns[2].Name = "other" }),
		"it is gone":    changed(func(x *api.Table) { x.Columns = x.Columns[:2] }),
		"one more":      changed(func(x *api.Table) { x.Columns = append(x.Columns, api.Column{Name: "more", Kind: api.Int}) }),
		"another place": changed(func(x *api.Table) { x.Columns[1], x.Columns[2] = x.Columns[2], x.Columns[1] }),
		"the key's place": changed(func(x *api.Table) {
			x.Columns[0], x.Columns[1], x.Columns[2] = x.Columns[2], x.Columns[0], x.Columns[1]
			x.Key = 1
		}),
	} {
		x.tells(what, y, emptied(), msgEmpty())
	}
	x.commits(9001, msgCommit(9001))
}

// TestU5ByNumbers: tables are told by their numbers, though they are published by their names.
func TestU5ByNumbers(t *testing.T) {
	x := made(t, pub(api.Published{Table: "t", Kinds: 15}, api.Published{Table: "u", Kinds: 7}))
	of := func(id int, name string) api.Table {
		return changed(func(x *api.Table) { x.ID, x.Name = id, name })
	}
	empty := func(id int) api.Change { return api.Change{Kind: api.RecEmpty, Table: id} }
	told := func(id int) api.Message { return api.Message{Kind: api.MsgEmpty, Table: id} }
	x.begin()
	x.tells("4", of(4, "t"), empty(4), msgBegin(), msgTable(of(4, "t")), told(4))
	x.tells("5, of the same name", of(5, "t"), empty(5), msgTable(of(5, "t")), told(5))
	x.tells("4 again", of(4, "t"), empty(4), told(4))
	x.tells("5 again", of(5, "t"), empty(5), told(5))
	x.tells("what is not told of a table is no view of it", of(4, "u"), empty(4))
	x.tells("4 as it was", of(4, "t"), empty(4), told(4))
	x.tells("4 by another name", of(4, "u"), inserted(row(1, "a")), msgTable(of(4, "u")), msgInsert(row(1, "a")))
	x.tells("4 that is not published", of(4, "v"), empty(4))
	x.tells("4 by the other name still", of(4, "u"), deleted(row(1, "a")), msgDelete(row(1, "a")))
	x.tells("4 by its first name", of(4, "t"), empty(4), msgTable(of(4, "t")), told(4))
	x.tells("the greatest", of(last, "t"), empty(last), msgTable(of(last, "t")), told(last))
	x.commits(9001, msgCommit(9001))
}

// TestU5ManyTables: each is known for itself, however they come between one another.
func TestU5ManyTables(t *testing.T) {
	x := made(t, only(15, ""))
	for range 2 {
		x.begin()
		ahead := []api.Message{msgBegin()}
		for id := 1; id <= 300; id++ {
			y := changed(func(y *api.Table) { y.ID, y.Version = id, 1+id%7 })
			for round := range 2 {
				want := []api.Message{{Kind: api.MsgEmpty, Table: id}}
				if round == 0 {
					want = slices.Concat(ahead, []api.Message{msgTable(y)}, want)
					ahead = nil
				}
				x.tells("of many", y, api.Change{Kind: api.RecEmpty, Table: id}, want...)
			}
		}
		for id := 300; id >= 1; id-- {
			y := changed(func(y *api.Table) { y.ID, y.Version = id, 1+id%7 })
			x.tells("again", y, api.Change{Kind: api.RecEmpty, Table: id}, api.Message{Kind: api.MsgEmpty, Table: id})
		}
		x.commits(9001, msgCommit(9001))
	}
}

// TestAnErrorChangesNothing: what is refused between leaves no trace in what is told.
func TestAnErrorChangesNothing(t *testing.T) {
	x := made(t, only(15, "id > 1"))
	refusals := func() {
		t.Helper()
		other := changed(func(x *api.Table) { x.Version = 9 })
		x.refuses("a wrong row", other, inserted(nil), api.ErrArg)
		x.refuses("another key", other, updated(row(2, "a"), row(3, "a")), api.ErrArg)
		x.refuses("another number", other, api.Change{Kind: api.RecEmpty, Table: 5}, api.ErrArg)
		x.refuses("no table", api.Table{}, api.Change{Kind: api.RecEmpty}, api.ErrArg)
		x.begins(0, 9000, api.ErrArg)
		x.begins(5, top+1, api.ErrArg)
	}
	within := func() {
		t.Helper()
		refusals()
		x.begins(9, 9999, api.ErrPublishOrder)
		x.stays(9000, api.ErrArg)
		x.stays(top+1, api.ErrArg)
	}
	outside := func() {
		t.Helper()
		refusals()
		x.refuses("outside", thing(), emptied(), api.ErrPublishOrder)
		x.stays(9001, api.ErrPublishOrder)
	}
	for range 2 {
		outside()
		x.begin()
		within()
		x.tells("nothing", thing(), inserted(row(1, "a")))
		within()
		x.tells("the first", thing(), inserted(row(2, "a")), msgBegin(), msgTable(thing()), msgInsert(row(2, "a")))
		within()
		x.tells("the second", thing(), inserted(row(3, "a")), msgInsert(row(3, "a")))
		within()
		x.commits(9001, msgCommit(9001))
		outside()
	}
}
