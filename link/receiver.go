package link

import (
	"sync"

	"confluence/api"
)

// Receiver is the other end.
type Receiver struct {
	guard   sync.Mutex
	have    int
	done    *word
	next    transaction   // the one whose pieces wait; zero, which no piece is of, if none do
	waiting map[int]piece // by their numbers
}

// NewReceiver makes one that has all up to a position.
func NewReceiver(have int) (*Receiver, api.Errno) {
	if !isPosition(have) {
		return nil, api.ErrArg
	}
	return &Receiver{have: have, done: &word{position: have}}, api.OK
}

// Take takes a frame; the messages of the transaction that is whole now, in their order, and where it ends.
func (r *Receiver) Take(frame string) ([]string, int, api.Errno) {
	p, right := takePiece(frame)
	if !right {
		return nil, 0, api.ErrLinkFrame
	}
	r.guard.Lock()
	defer r.guard.Unlock()
	switch {
	case p.of.end <= r.have:
		return nil, 0, api.ErrLinkOld
	case p.of.behind > r.have:
		return nil, 0, api.ErrLinkGap
	}
	if r.next != p.of {
		r.next, r.waiting = p.of, map[int]piece{}
	}
	if _, waits := r.waiting[p.number]; waits {
		return nil, 0, api.ErrLinkOld
	}
	r.waiting[p.number] = p
	if len(r.waiting) < p.of.pieces {
		return nil, 0, api.OK
	}
	return r.whole(), p.of.end, api.OK
}

// whole is all messages of the transaction whose pieces wait; it is had from now on, and none waits any more.
func (r *Receiver) whole() []string {
	var all []string
	for number := range r.next.pieces {
		all = append(all, r.waiting[number].messages...)
	}
	r.have = r.next.end
	r.next, r.waiting = transaction{}, nil
	return all
}

// Done notes that all up to a position lasts on this side.
func (r *Receiver) Done(end int) api.Errno {
	r.guard.Lock()
	defer r.guard.Unlock()
	switch {
	case !isPosition(end):
		return api.ErrArg
	case end > r.have:
		return api.ErrLinkOrder
	}
	if end > r.done.position {
		r.done = &word{position: end}
	}
	return api.OK
}

// Word is what is to be sent back.
func (r *Receiver) Word() string { return r.lastWord().tell() }

// lastWord is that of what is done by now; it is told without the guard, so that who works it out holds nobody up.
func (r *Receiver) lastWord() *word {
	r.guard.Lock()
	defer r.guard.Unlock()
	return r.done
}
