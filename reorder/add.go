package reorder

import (
	"slices"

	"confluence/api"
	"confluence/merge"
	"confluence/value"
)

// sizeAlone is what a change counts without its rows.
const sizeAlone = 32

// Add takes a change.
func (b *Buffer) Add(c api.Change) api.Errno {
	p := b.known(c.Xid)
	switch {
	case b.told != nil:
		return api.ErrReorderOpen
	case p == nil:
		return api.ErrReorderXid
	case !b.rises(c.Lsn):
		return api.ErrReorderOrder
	case !isRight(c):
		return api.ErrArg
	}
	size := Size(c)
	if e := b.makeRoom(size); e != api.OK {
		return e
	}
	c.Old, c.New = slices.Clone(c.Old), slices.Clone(c.New)
	b.hold(p, c, size)
	b.last = c.Lsn
	return api.OK
}

// Size is how many bytes a change counts.
func Size(c api.Change) int { return sizeAlone + rowSize(c.Old) + rowSize(c.New) }

// rowSize is how many bytes a row counts.
func rowSize(r api.Row) int {
	if len(r) == 0 {
		return 0
	}
	// Of a row that cannot be written there are no bytes.
	bytes, _ := value.Encode(r)
	return len(bytes)
}

// isRight tells whether a change may be added, and so be written into a file later: its number and its position are asked for elsewhere.
func isRight(c api.Change) bool {
	_, wrongFrom := value.Encode(c.Old)
	_, wrongTo := value.Encode(c.New)
	return isKind(c.Kind) && c.Table >= 1 && wrongFrom == api.OK && wrongTo == api.OK
}

func isKind(kind int) bool {
	return kind == api.RecInsert || kind == api.RecUpdate || kind == api.RecDelete
}

// makeRoom writes transactions, the greatest first, until so many bytes more may be at hand, or nothing is.
func (b *Buffer) makeRoom(size int) api.Errno {
	for b.bytes > 0 && b.bytes+size > b.limit {
		if e := b.write(b.greatest()); e != api.OK {
			return e
		}
	}
	return api.OK
}

// greatest is the transaction that has the most at hand; of several the one with the least number. Something is at hand.
func (b *Buffer) greatest() *transaction {
	var most *transaction
	for _, t := range b.open {
		if most == nil || t.bytes > most.bytes || t.bytes == most.bytes && t.xid < most.xid {
			most = t
		}
		// The others have nothing, then.
		if t.bytes == b.bytes {
			goto found
		}
	}
found:
	return most
}

// write moves all that a transaction has at hand into a further segment.
func (b *Buffer) write(t *transaction) api.Errno {
	var lists [][]api.Change
	for _, p := range t.filled {
		lists = append(lists, p.hand)
	}
	if e := b.files.Write(t.xid, merge.Lists(lists)); e != api.OK {
		return e
	}
	b.spilled++
	b.empty(t)
	return api.OK
}
