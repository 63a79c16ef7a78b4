package record_test

import (
	"math"
	"slices"
	"strings"
	"testing"

	"confluence/api"
	"confluence/record"
)

func TestL1BytesOfEachKind(t *testing.T) {
	for _, c := range samples() {
		if s, e := record.Encode(c.r); s != c.s || e != api.OK {
			t.Errorf("Encode(%+v) = %x, %d, want %x", c.r, s, e, c.s)
		}
		taken(t, "a sample", c.r)
	}
}

func TestL1Kinds(t *testing.T) {
	bare := api.Rec{Xid: 1}
	crowded := api.Rec{Xid: -1, Parent: 9, Table: -5, Old: sevens(9), New: pair(), Name: "A", Origin: -1, Tab: api.Table{ID: -1}, Tabs: make([]api.Table, 17)}
	for _, kind := range []int{0, 16, 17, -1, -15, 255, 256, 257, 271, 1<<32 + 1, math.MinInt, math.MinInt + 1, math.MaxInt} {
		for _, r := range []api.Rec{{}, bare, crowded} {
			r.Kind = kind
			refused(t, "no kind", r, api.ErrRecordKind)
		}
	}
	for kind := 1; kind <= 15; kind++ {
		r := crowded
		r.Kind = kind
		refused(t, "a kind whose fields are all wrong", r, api.ErrRecordField)
		refused(t, "a kind alone", api.Rec{Kind: kind}, api.ErrRecordField)
		taken(t, "a kind", sampleOf(kind))
	}
}

func TestL1FieldsThatAKindHasNot(t *testing.T) {
	one := func(how func(*api.Table)) api.Table {
		var tab api.Table
		how(&tab)
		return tab
	}
	filled := map[string][]func(*api.Rec){
		"Old":  {func(r *api.Rec) { r.Old = pair() }, func(r *api.Rec) { r.Old = api.Row{null} }, func(r *api.Rec) { r.Old = sevens(9) }},
		"New":  {func(r *api.Rec) { r.New = pair() }, func(r *api.Rec) { r.New = api.Row{null} }, func(r *api.Rec) { r.New = sevens(9) }},
		"Name": {func(r *api.Rec) { r.Name = "a" }, func(r *api.Rec) { r.Name = " " }, func(r *api.Rec) { r.Name = "\x00" }},
		"Tab":  {func(r *api.Rec) { r.Tab = thing() }},
		"Tabs": {func(r *api.Rec) { r.Tabs = tablesUpTo(1) }, func(r *api.Rec) { r.Tabs = make([]api.Table, 1) }},
	}
	for _, n := range []int{1, 2, -1, 1 << 32, math.MinInt, math.MaxInt} {
		filled["Parent"] = append(filled["Parent"], func(r *api.Rec) { r.Parent = n })
		filled["Table"] = append(filled["Table"], func(r *api.Rec) { r.Table = n })
		filled["Origin"] = append(filled["Origin"], func(r *api.Rec) { r.Origin = n })
	}
	for _, how := range []func(*api.Table){
		func(x *api.Table) { x.ID = 1 }, func(x *api.Table) { x.Version = 1 }, func(x *api.Table) { x.Name = "t" },
		func(x *api.Table) { x.Columns = make([]api.Column, 1) }, func(x *api.Table) { x.Key = 1 }, func(x *api.Table) { x.Key = -1 },
	} {
		filled["Tab"] = append(filled["Tab"], func(r *api.Rec) { r.Tab = one(how) })
	}
	for field, l := range filled {
		for kind := 1; kind <= 15; kind++ {
			for _, how := range l {
				if !slices.Contains(kindsWith[field], kind) {
					refused(t, "with "+field, with(kind, how), api.ErrRecordField)
				}
			}
		}
	}
}

func TestL1EmptyListsAreNone(t *testing.T) {
	for kind := 1; kind <= 15; kind++ {
		r := sampleOf(kind)
		for _, row := range []*api.Row{&r.Old, &r.New} {
			if len(*row) == 0 {
				*row = make(api.Row, 0, 5)
			}
		}
		if len(r.Tabs) == 0 {
			r.Tabs = make([]api.Table, 0, 5)
		}
		if len(r.Tab.Columns) == 0 {
			r.Tab.Columns = make([]api.Column, 0, 5)
		}
		taken(t, "lists without elements", r)
	}
}

// TestL1Numbers has each field that is a number of a transaction, a part or a table.
func TestL1Numbers(t *testing.T) {
	for kind := 1; kind <= 14; kind++ {
		for _, n := range noNumbers {
			wrongField(t, "Xid", with(kind, func(r *api.Rec) { r.Xid = n }))
			if slices.Contains(kindsWith["Table"], kind) {
				wrongField(t, "Table", with(kind, func(r *api.Rec) { r.Table = n }))
			}
		}
		for _, n := range []int{1, 2, 127, 128, 16383, 16384, last - 1, last} {
			if kind != api.RecPart {
				taken(t, "Xid", with(kind, func(r *api.Rec) { r.Xid = n }))
			}
			if slices.Contains(kindsWith["Table"], kind) {
				taken(t, "Table", with(kind, func(r *api.Rec) { r.Table = n }))
			}
		}
	}
}

func TestL1Parts(t *testing.T) {
	part := func(xid, parent int) api.Rec { return api.Rec{Kind: api.RecPart, Xid: xid, Parent: parent} }
	for _, xid := range []int{2, 3, 5, 128, last - 1, last} {
		for _, parent := range []int{1, xid / 2, xid - 1} {
			taken(t, "a part", part(xid, parent))
		}
		for _, parent := range append([]int{xid, xid + 1, xid + 100}, noNumbers...) {
			wrongField(t, "a part", part(xid, parent))
		}
	}
	for _, xid := range append([]int{1}, noNumbers...) {
		for _, parent := range []int{-1, 0, 1, 2, last} {
			wrongField(t, "a part", part(xid, parent))
		}
		wrongField(t, "a part just above its parent", part(xid, xid-1))
	}
}

func TestL1Rows(t *testing.T) {
	set := map[string]func(*api.Rec, api.Row){
		"Old": func(r *api.Rec, row api.Row) { r.Old = row },
		"New": func(r *api.Rec, row api.Row) { r.New = row },
	}
	texts := slices.Repeat(api.Row{text(full)}, 8)
	for field, f := range set {
		for _, kind := range kindsWith[field] {
			for _, row := range wrongRows() {
				wrongField(t, field, with(kind, func(r *api.Rec) { f(r, row) }))
			}
			for _, row := range []api.Row{sevens(1), sevens(2), sevens(7), sevens(8), {null}, {no}, {yes}, {text("")}, {text(full)}, {number(math.MinInt)}, {number(math.MaxInt)}, {number(-1)}, {null, no, yes, number(0), text("\x00\xff'\\\n"), text("(, )")}, texts} {
				taken(t, field, with(kind, func(r *api.Rec) { f(r, row) }))
			}
		}
	}
	most := api.Rec{Kind: api.RecUpdate, Xid: last, Table: last, Old: texts, New: texts}
	taken(t, "the longest update", most)
}

func TestL1Commits(t *testing.T) {
	commit := func(name string, origin int) api.Rec {
		return api.Rec{Kind: api.RecCommit, Xid: 1, Name: name, Origin: origin}
	}
	taken(t, "from nowhere", commit("", 0))
	noOrigins := []int{0, -1, topOrigin + 1, topOrigin + 8192, behind, 1 << 32, 1<<32 + 1, math.MinInt, math.MaxInt}
	for _, origin := range append(noOrigins[1:], 1, 8192, topOrigin) {
		wrongField(t, "a position of nowhere", commit("", origin))
	}
	for _, name := range names {
		for _, origin := range []int{1, 2, 127, 128, 8191, 8192, topOrigin - 1, topOrigin} {
			taken(t, "from somewhere", commit(name, origin))
		}
		for _, origin := range noOrigins {
			wrongField(t, "no position", commit(name, origin))
		}
	}
	for _, name := range noNames {
		for _, origin := range []int{0, 1, 8192, topOrigin, topOrigin + 1} {
			wrongField(t, "from no name", commit(name, origin))
		}
	}
}

func TestL1Prepares(t *testing.T) {
	for _, name := range names {
		taken(t, "a name", api.Rec{Kind: api.RecPrepare, Xid: 1, Name: name})
	}
	for _, name := range append([]string{""}, noNames...) {
		wrongField(t, "no name", api.Rec{Kind: api.RecPrepare, Xid: 1, Name: name})
	}
}

func TestL1Tables(t *testing.T) {
	for _, kind := range kindsWith["Tab"] {
		for _, x := range rightTables() {
			taken(t, "a table", api.Rec{Kind: kind, Xid: 1, Tab: x})
		}
		for _, x := range wrongTables() {
			wrongField(t, "a wrong table", api.Rec{Kind: kind, Xid: 1, Tab: x})
		}
	}
}

func checkpoint(xid, table int, tabs ...api.Table) api.Rec {
	return api.Rec{Kind: api.RecCheckpoint, Xid: xid, Table: table, Tabs: tabs}
}

func TestL1CheckpointsNumbers(t *testing.T) {
	for _, n := range []int{1, 2, 127, 128, last - 1, last, behind} {
		taken(t, "the next transaction", checkpoint(n, 1))
		taken(t, "the next table", checkpoint(1, n))
		taken(t, "both", checkpoint(n, n))
	}
	for _, n := range noNumbers {
		if n != behind {
			wrongField(t, "the next transaction", checkpoint(n, 1))
			wrongField(t, "the next transaction, and a table", checkpoint(n, 2, thing()))
			wrongField(t, "the next table", checkpoint(1, n))
			wrongField(t, "the next table, and a table", checkpoint(1, n, thing()))
		}
	}
}

func TestL1CheckpointsTables(t *testing.T) {
	for _, n := range []int{0, 1, 2, 15, 16} {
		taken(t, "so many tables", checkpoint(1, n+1, tablesUpTo(n)...))
		taken(t, "so many tables", checkpoint(1, behind, tablesUpTo(n)...))
		if n > 0 {
			wrongField(t, "the last one is the next", checkpoint(1, n, tablesUpTo(n)...))
			wrongField(t, "the first one is the next", checkpoint(1, 1, tablesUpTo(n)...))
		}
	}
	for _, n := range []int{17, 18, 255, 256, 257, 272} {
		wrongField(t, "too many", checkpoint(1, behind, tablesUpTo(n)...))
	}
	at := func(id int, name string) api.Table {
		return changed(func(t *api.Table) { t.ID, t.Name = id, name })
	}
	taken(t, "the last number", checkpoint(1, behind, at(last, "t")))
	wrongField(t, "the last number is the next", checkpoint(1, last, at(last, "t")))
	taken(t, "gaps", checkpoint(1, 100, at(3, "c"), at(50, "b"), at(99, "a")))
	wrongField(t, "above the next", checkpoint(1, 100, at(3, "c"), at(50, "b"), at(101, "a")))
	wrongField(t, "one number twice", checkpoint(1, 100, at(3, "c"), at(3, "b")))
	wrongField(t, "one number twice at the end", checkpoint(1, 100, at(1, "c"), at(3, "b"), at(3, "a")))
	wrongField(t, "falling", checkpoint(1, 100, at(4, "c"), at(3, "b")))
	wrongField(t, "falling at the end", checkpoint(1, 100, at(1, "a"), at(5, "b"), at(4, "c")))
	wrongField(t, "falling in the midst", checkpoint(1, 100, at(2, "a"), at(1, "b"), at(3, "c")))
	wrongField(t, "one name twice", checkpoint(1, 100, at(1, "t"), at(2, "t")))
	wrongField(t, "one name twice, apart", checkpoint(1, 100, at(1, "t"), at(2, "u"), at(3, "t")))
	wrongField(t, "one table twice", checkpoint(1, 100, thing(), thing()))
	for _, x := range rightTables() {
		taken(t, "a table", checkpoint(1, behind, x))
	}
	for _, x := range wrongTables() {
		wrongField(t, "a wrong table", checkpoint(1, behind, x))
		wrongField(t, "a wrong table ahead", checkpoint(1, behind, x, at(last, "right")))
		wrongField(t, "a wrong table behind", checkpoint(1, behind, append(tablesUpTo(15), x)...))
	}
}

func TestL1LongestCheckpoint(t *testing.T) {
	var l []api.Table
	for i := range 16 {
		x := api.Table{ID: last - 15 + i, Version: last, Name: "abcdefghijklmno" + string(rune('a'+i)), Key: 7}
		for k := range 8 {
			x.Columns = append(x.Columns, api.Column{Name: "abcdefghijklmno" + string(rune('a'+k)), Kind: api.Text})
		}
		l = append(l, x)
	}
	taken(t, "the longest", checkpoint(behind, behind, l...))
}

func TestL1GreatInputs(t *testing.T) {
	refused(t, "a great row", with(api.RecInsert, func(r *api.Rec) { r.New = sevens(1 << 20) }), api.ErrRecordField)
	refused(t, "a great row of a begin", with(api.RecBegin, func(r *api.Rec) { r.New = sevens(1 << 20) }), api.ErrRecordField)
	refused(t, "a great name", with(api.RecPrepare, func(r *api.Rec) { r.Name = strings.Repeat("a", 1<<20) }), api.ErrRecordField)
	refused(t, "many tables", with(api.RecCheckpoint, func(r *api.Rec) { r.Tabs = make([]api.Table, 1<<16) }), api.ErrRecordField)
	refused(t, "many columns", with(api.RecCreate, func(r *api.Rec) { r.Tab.Columns = make([]api.Column, 1<<16) }), api.ErrRecordField)
}
