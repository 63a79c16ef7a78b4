package publish_test

import (
	"slices"
	"testing"

	"confluence/api"
	"confluence/publish"
)

// views holds how a table is published.
func views(t *testing.T, what string, p api.Publication, x, want api.Table) {
	t.Helper()
	if v, is := publish.View(p, x); !is || !equalTable(v, want) {
		t.Errorf("%s: View(%+v, %+v) = %+v, %v, want %+v", what, p, x, v, is, want)
	}
}

func hidden(t *testing.T, what string, p api.Publication, x api.Table) {
	t.Helper()
	if v, is := publish.View(p, x); is || !equalTable(v, api.Table{}) || v.Columns != nil {
		t.Errorf("%s: View(%+v, %+v) = %+v, %v", what, p, x, v, is)
	}
}

// cut is a table with the columns at these places alone.
func cut(x api.Table, key int, places ...int) api.Table {
	out := x
	out.Columns, out.Key = nil, key
	for _, i := range places {
		out.Columns = append(out.Columns, x.Columns[i])
	}
	return out
}

func TestU3Columns(t *testing.T) {
	x := thing()
	for _, c := range []struct {
		named  []string
		places []int
	}{
		{nil, []int{0, 1, 2}},
		{[]string{}, []int{0, 1, 2}},
		{[]string{"id", "name", "flag"}, []int{0, 1, 2}},
		{[]string{"flag", "name", "id"}, []int{0, 1, 2}},
		{[]string{"flag", "name"}, []int{0, 1, 2}},
		{[]string{"name"}, []int{0, 1}},
		{[]string{"flag"}, []int{0, 2}},
		{[]string{"id"}, []int{0}},
		{[]string{"none"}, []int{0}},
		{[]string{"none", "flag", "t"}, []int{0, 2}},
		{[]string{"fla", "flagg", "na_me", "i"}, []int{0}},
		{columnNames(8), []int{0}},
	} {
		views(t, "columns", only(15, "", c.named...), x, cut(x, 0, c.places...))
		views(t, "with a filter of others", only(1, "flag or name = 'a'", c.named...), x, cut(x, 0, c.places...))
	}
}

// TestU3Key: the key's place is that among the columns that are shown.
func TestU3Key(t *testing.T) {
	for key := range 8 {
		x := thing()
		x.Columns, x.Key = columns(8), key
		x.Columns[key].Kind, x.Columns[key].Null = 1+key%2, false
		views(t, "all", only(15, ""), x, x)
		views(t, "the key alone", only(15, "", "none"), x, cut(x, 0, key))
		views(t, "the key by its name", only(15, "", x.Columns[key].Name), x, cut(x, 0, key))
		for set := 1; set < 256; set++ {
			var named []string
			var places []int
			place := 0
			for i := range 8 {
				if i == key {
					place = len(places)
				}
				if set>>i&1 == 1 {
					named = append(named, x.Columns[i].Name)
				}
				if set>>i&1 == 1 || i == key {
					places = append(places, i)
				}
			}
			slices.Reverse(named)
			views(t, "some", only(15, "", named...), x, cut(x, place, places...))
		}
	}
}

func TestU3Filters(t *testing.T) {
	x := thing()
	for _, s := range []string{"", "id > 1", "flag", "not flag", "true", "name is null", "id = 1 / 0", "null and flag", "null = null", "id = null", "case when flag then true end", "coalesce(null, flag)", "id in (1, null)"} {
		views(t, "a filter", only(15, s), x, x)
	}
	for _, s := range []string{"id", "name", "1", "'true'", "null", "nullif(null, flag)", "coalesce(null)", "id + 1", "case when flag then 1 end", "none = 1", "none", "flag and none", "id = 'a'", "id and flag", "name > 1", "length(id) = 1", "abs(flag) = 1", "flag or 1"} {
		hidden(t, "a filter", only(15, s), x)
	}
	// Columns that are not shown may be asked.
	views(t, "asked and not shown", only(15, "flag and name = 'a'", "id"), x, cut(x, 0, 0))
	// What is asked is another one's column from the version on in which it has it.
	wider := x
	wider.Version, wider.Columns = 3, append(slices.Clone(x.Columns), api.Column{Name: "more", Kind: api.Int, Null: true})
	hidden(t, "narrow", only(15, "more > 1"), x)
	views(t, "wide", only(15, "more > 1"), wider, wider)
	views(t, "wide", only(15, "", "more"), wider, cut(wider, 0, 0, 3))
}

func TestU3Names(t *testing.T) {
	p := pub(api.Published{Table: "u", Kinds: 1}, api.Published{Table: "t", Kinds: 2, Columns: []string{"name"}}, api.Published{Table: "v", Kinds: 4, Filter: "flag"}, api.Published{Table: "w", Kinds: 8, Filter: "id"})
	named := func(s string, id, version int) api.Table {
		return changed(func(x *api.Table) { x.Name, x.ID, x.Version = s, id, version })
	}
	views(t, "the first", p, named("u", 1, 1), named("u", 1, 1))
	views(t, "the second", p, named("t", last, last), cut(named("t", last, last), 0, 0, 1))
	views(t, "the third", p, named("v", 4, 7), named("v", 4, 7))
	hidden(t, "the fourth has no condition", p, named("w", 4, 1))
	for _, s := range []string{"x", "tt", "u_", "p", "a"} {
		hidden(t, "another name", p, named(s, 4, 1))
	}
	// Its kinds do not matter for the view.
	for kinds := 1; kinds <= 15; kinds++ {
		views(t, "kinds", only(kinds, "", "flag"), thing(), cut(thing(), 0, 0, 2))
	}
}

func TestU3WhatIsNotRight(t *testing.T) {
	for _, x := range rightTables() {
		p := pub(api.Published{Table: x.Name, Kinds: 1})
		views(t, "a right table", p, x, x)
	}
	for _, x := range wrongTables() {
		hidden(t, "a wrong table", only(15, ""), x)
		if isName(x.Name) {
			hidden(t, "a wrong table", pub(api.Published{Table: x.Name, Kinds: 1}), x)
		}
	}
	for _, p := range wrongPublications() {
		hidden(t, "a wrong publication", p, thing())
		for _, x := range p.Tables {
			hidden(t, "a wrong publication", p, changed(func(y *api.Table) { y.Name = x.Table }))
			break
		}
	}
	// What is wrong in another table of it counts, too.
	hidden(t, "wrong elsewhere", pub(api.Published{Table: "t", Kinds: 1}, api.Published{Table: "u", Kinds: 1, Filter: "a >"}), thing())
}
