package reorder

import "confluence/api"

// transaction is one that is open.
type transaction struct {
	xid     int
	begun   int     // the position of its Begin
	numbers []int   // all that it has used, its own first
	filled  []*part // those to which something came since it was written last; some may have been taken back
	bytes   int     // at hand, those of its parts, too
}

// part is what changes of one number belong to: those of a part, or those that a transaction has outside of its parts.
type part struct {
	whole  *transaction
	within []*part
	gone   bool         // it was taken back
	bytes  int          // at hand
	hand   []api.Change // those at hand, by rising positions
}

// enter gives a number to a new part of a transaction.
func (b *Buffer) enter(xid int, t *transaction) *part {
	p := &part{whole: t}
	b.used[xid] = p
	t.numbers = append(t.numbers, xid)
	return p
}

// known is the part of a number; nil, if the number is not known.
func (b *Buffer) known(xid int) *part {
	p := b.used[xid]
	if p == nil || p.gone {
		return nil
	}
	return p
}

// takeBack takes a part back with all within it. Its number stays, so that it is not given again while the transaction is open.
func (b *Buffer) takeBack(p *part) {
	left := []*part{p}
	for len(left) > 0 {
		last := len(left) - 1
		p, left = left[last], left[:last]
		left = append(left, p.within...)
		// What is within a part that is gone need not be gone over again when the part around it is taken back.
		p.within, p.gone = nil, true
		b.drop(p)
	}
}

// hold lets a change of a part be at hand.
func (b *Buffer) hold(p *part, c api.Change, size int) {
	if len(p.hand) == 0 {
		p.whole.filled = append(p.whole.filled, p)
	}
	p.hand = append(p.hand, c)
	p.bytes += size
	p.whole.bytes += size
	b.bytes += size
	b.changes++
}

// drop lets what a part has be at hand no more.
func (b *Buffer) drop(p *part) {
	b.bytes -= p.bytes
	b.changes -= len(p.hand)
	p.whole.bytes -= p.bytes
	p.bytes, p.hand = 0, nil
}

// empty lets nothing of a transaction be at hand.
func (b *Buffer) empty(t *transaction) {
	for _, p := range t.filled {
		b.drop(p)
	}
	t.filled = nil
}

// forget lets a transaction be over: its numbers may come again.
func (b *Buffer) forget(t *transaction) {
	for _, xid := range t.numbers {
		delete(b.used, xid)
	}
	delete(b.open, t.xid)
}
