package link

import (
	"slices"
	"sync"

	"confluence/api"
)

// Sender is one end.
type Sender struct {
	guard     sync.Mutex
	confirmed int
	last      int    // the end that was Put last; what was confirmed at first, if none was
	kept      []sent // what is not confirmed, by rising ends
}

// sent is a transaction on its way: where it ends, and all its frames.
type sent struct {
	end    int
	frames []string
}

// NewSender makes one; all up to a position is confirmed.
func NewSender(confirmed int) (*Sender, api.Errno) {
	if !isPosition(confirmed) {
		return nil, api.ErrArg
	}
	return &Sender{confirmed: confirmed, last: confirmed}, api.OK
}

// Put takes the messages of a transaction, which ends at a position.
func (s *Sender) Put(end int, messages []string) api.Errno {
	s.guard.Lock()
	defer s.guard.Unlock()
	switch {
	case !isPosition(end):
		return api.ErrArg
	case end <= s.last:
		return api.ErrLinkOrder
	}
	pieces, fit := cut(messages)
	switch {
	case !fit:
		return api.ErrLinkLong
	case len(s.kept) >= api.MaxWindow:
		return api.ErrLinkFull
	}
	if end > s.confirmed {
		s.kept = append(s.kept, sent{end, layPieces(s.last, end, pieces)})
	}
	s.last = end
	return api.OK
}

// Frames are those that are to be sent: all that is not confirmed.
func (s *Sender) Frames() []string {
	s.guard.Lock()
	defer s.guard.Unlock()
	var all []string
	for _, t := range s.kept {
		all = append(all, t.frames...)
	}
	return all
}

// Word takes a receiver's word; up to where all is confirmed.
func (s *Sender) Word(frame string) (int, api.Errno) {
	position, is := takeWord(frame)
	if !is {
		return 0, api.ErrLinkFrame
	}
	s.guard.Lock()
	defer s.guard.Unlock()
	if position > s.confirmed {
		s.confirmed = position
		s.kept = slices.DeleteFunc(s.kept, func(t sent) bool { return t.end <= position })
	}
	return s.confirmed, api.OK
}

// Left tells how many transactions are not confirmed.
func (s *Sender) Left() int {
	s.guard.Lock()
	defer s.guard.Unlock()
	return len(s.kept)
}
