package record_test

import (
	"math"
	"testing"

	"confluence/api"
	"confluence/record"
)

func TestL3WordsOfEachKind(t *testing.T) {
	for _, c := range samples() {
		if p := record.Print(c.r); p != c.p {
			t.Errorf("Print(%+v) = %s, want %s", c.r, p, c.p)
		}
	}
}

func TestL3Words(t *testing.T) {
	eight := api.Row{number(math.MinInt), number(math.MaxInt), number(0), null, yes, no, text("it's"), text("\\\n\x7f\xff, )")}
	wide := api.Table{ID: last, Version: last, Name: "w", Columns: columns(8), Key: 4}
	wide.Columns[4].Name = "abcdefghijklmnop"
	const wideWords = "w 2147483647.2147483647 (ca int, cb text null, cc bool, cd int null, abcdefghijklmnop text, cf bool null, cg int, ch text null) key abcdefghijklmnop"
	for _, c := range []struct {
		r    api.Rec
		want string
	}{
		{api.Rec{Kind: api.RecInsert, Xid: last, Table: last, New: eight}, `insert 2147483647 table 2147483647 (-9223372036854775808, 9223372036854775807, 0, null, true, false, 'it''s', '\5c\0a\7f\ff, )')`},
		{api.Rec{Kind: api.RecUpdate, Xid: 1, Table: 1, Old: eight[:2], New: eight[3:6]}, "update 1 table 1 (-9223372036854775808, 9223372036854775807) to (null, true, false)"},
		{api.Rec{Kind: api.RecDelete, Xid: 1, Table: 1, Old: api.Row{text("")}}, "delete 1 table 1 ('')"},
		{api.Rec{Kind: api.RecCommit, Xid: last, Name: "abcdefghijklmnop", Origin: topOrigin}, "commit 2147483647 from abcdefghijklmnop at 819208192"},
		{api.Rec{Kind: api.RecPrepare, Xid: last, Name: "from"}, "prepare 2147483647 as from"},
		{api.Rec{Kind: api.RecCreate, Xid: 1, Tab: wide}, "create 1 " + wideWords},
		{api.Rec{Kind: api.RecWiden, Xid: 1, Tab: wide}, "widen 1 " + wideWords},
		{checkpoint(behind, behind), "checkpoint next 2147483648 table 2147483648"},
		{checkpoint(1, behind, thing(), wide), "checkpoint next 1 table 2147483648 t 1.1 (id int, name text null) key id " + wideWords},
	} {
		if p := record.Print(c.r); p != c.want {
			t.Errorf("Print(%+v) = %s, want %s", c.r, p, c.want)
		}
		taken(t, "by the rules", c.r)
	}
}

func TestL3Others(t *testing.T) {
	for _, r := range []api.Rec{
		{}, {Kind: 16, Xid: 1}, {Kind: -1, Xid: 1}, {Kind: api.RecBegin}, {Kind: api.RecBegin, Xid: -1}, {Kind: api.RecBegin, Xid: 1, Table: 1}, {Kind: api.RecPart, Xid: 3, Parent: 5},
		{Kind: api.RecInsert, Xid: 1, Table: 1}, {Kind: api.RecDelete, Xid: 1, Table: 1, New: pair()}, {Kind: api.RecCommit, Xid: 1, Name: "a"}, {Kind: api.RecPrepare, Xid: 1},
		{Kind: api.RecCreate, Xid: 1}, {Kind: api.RecCreate, Xid: 1, Tab: api.Table{Key: 3}}, {Kind: api.RecWiden, Xid: 1, Tab: api.Table{Key: -1}}, checkpoint(1, 1, thing()), checkpoint(1, 9, api.Table{Key: 5}),
	} {
		if p := record.Print(r); p != "?" {
			t.Errorf("Print(%+v) = %s", r, p)
		}
	}
}
