package publish

import (
	"confluence/api"
	"confluence/catalog"
	"confluence/value"
)

// maxPosition is behind the last position that the log has.
const maxPosition = (api.MaxSegments + 1) * api.SegmentSize

func (m begin) isRight() bool { return isNumber(m.xid) && isPosition(m.lsn) }

func (m shape) isRight() bool { return catalog.Right(m.tab) == api.OK }

func (m insertion) isRight() bool { return isNumber(m.table) && isRow(m.row) }

func (m update) isRight() bool { return isNumber(m.table) && isRow(m.from) && isRow(m.to) }

func (m deletion) isRight() bool { return isNumber(m.table) && isRow(m.row) }

func (m emptying) isRight() bool { return isNumber(m.table) }

func (m commit) isRight() bool {
	return begin{m.xid, m.lsn}.isRight() && isPosition(m.end) && m.end > m.lsn
}

func (m mark) isRight() bool { return isPosition(m.lsn) }

// isNumber tells whether a transaction or a table may have a number.
func isNumber(n int) bool { return n >= 1 && n <= api.MaxXid }

func isPosition(lsn int) bool { return lsn >= 1 && lsn <= maxPosition }

func isRow(r api.Row) bool {
	_, e := value.Encode(r)
	return len(r) > 0 && e == api.OK
}

// isName asks the catalog, which knows names: one is a name just if a table may have it.
func isName(s string) bool {
	t := api.Table{ID: 1, Version: 1, Name: s, Columns: []api.Column{{Name: "k", Kind: api.Int}}}
	return catalog.Right(t) == api.OK
}
