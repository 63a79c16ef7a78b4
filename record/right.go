package record

import (
	"confluence/api"
	"confluence/catalog"
	"confluence/value"
)

// maxOrigin is behind the last position that there is.
const maxOrigin = (api.MaxSegments + 1) * api.SegmentSize

func (b lone) isRight() bool { return isNumber(b.xid) }

func (b part) isRight() bool { return isNumber(b.xid) && isNumber(b.parent) && b.parent < b.xid }

func (b insertion) isRight() bool { return isNumber(b.xid) && isNumber(b.table) && isRow(b.row) }

func (b update) isRight() bool {
	return isNumber(b.xid) && isNumber(b.table) && isRow(b.from) && isRow(b.to)
}

func (b deletion) isRight() bool { return isNumber(b.xid) && isNumber(b.table) && isRow(b.row) }

func (b commit) isRight() bool { return isNumber(b.xid) && isOrigin(b.name, b.origin) }

func (b prepare) isRight() bool { return isNumber(b.xid) && isName(b.name) }

func (b shape) isRight() bool { return isNumber(b.xid) && catalog.Right(b.tab) == api.OK }

func (b whole) isRight() bool { return isNumber(b.xid) && isNumber(b.table) }

// isRight asks the catalog: it loads just the tables that a checkpoint may have, ahead of just such a next number.
func (b checkpoint) isRight() bool {
	_, e := catalog.Load(b.tabs, b.table)
	return isNext(b.xid) && e == api.OK
}

// isNumber tells whether a transaction, a part or a table may have a number.
func isNumber(n int) bool { return n >= 1 && n <= api.MaxXid }

// isNext tells whether a number may be the next one: also one that is never given, behind the last.
func isNext(n int) bool { return n >= 1 && n <= api.MaxXid+1 }

func isRow(r api.Row) bool {
	_, e := value.Encode(r)
	return len(r) > 0 && e == api.OK
}

// isOrigin tells whether a commit may come from there: from nowhere, or from a name, at a position.
func isOrigin(name string, origin int) bool {
	if name == "" {
		return origin == 0
	}
	return isName(name) && origin >= 1 && origin <= maxOrigin
}

// isName asks the catalog, which knows names: one is a name just if a table may have it.
func isName(s string) bool {
	t := api.Table{ID: 1, Version: 1, Name: s, Columns: []api.Column{{Name: "k", Kind: api.Int}}}
	return catalog.Right(t) == api.OK
}
