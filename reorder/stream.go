package reorder

import (
	"confluence/api"
	"confluence/merge"
)

// Stream tells a transaction's changes. One that has ended has nothing any more.
type Stream struct {
	buffer *Buffer
	whole  *transaction
	rows   *merge.Merge // of its segments, and of what was at hand of each of its parts
	wrong  api.Errno    // why a segment could not be read
}

// Commit ends one: its changes are told from now on.
func (b *Buffer) Commit(xid int) (*Stream, api.Errno) {
	t := b.open[xid]
	switch {
	case b.told != nil:
		return nil, api.ErrReorderOpen
	case t == nil:
		return nil, api.ErrReorderXid
	}
	s := &Stream{buffer: b, whole: t, rows: merge.New()}
	if e := s.addSegments(); e != api.OK {
		return nil, e
	}
	for _, p := range t.filled {
		s.rows.Add(over(p.hand))
	}
	b.told = s
	return s, api.OK
}

// addSegments lets the first change of each segment be held; if one cannot be read, none is.
func (s *Stream) addSegments() api.Errno {
	b := s.buffer
	bytes, changes := b.bytes, b.changes
	for k := range b.files.Segments(s.whole.xid) {
		s.rows.Add(s.segment(k))
		if s.wrong != api.OK {
			b.bytes, b.changes = bytes, changes
			return s.wrong
		}
	}
	return api.OK
}

// segment is a row of a segment's changes, each of which is at hand as soon as it is read. The row ends where one cannot be read, and the stream knows why.
func (s *Stream) segment(k int) func() (api.Change, bool) {
	b := s.buffer
	cursor, e := b.files.Cursor(s.whole.xid, k)
	if e != api.OK {
		s.wrong = e
		return nil
	}
	return func() (api.Change, bool) {
		for {
			c, is, e := cursor.Next()
			if !is {
				s.wrong = e
				return api.Change{}, false
			}
			if p := b.known(c.Xid); p != nil && p.whole == s.whole {
				b.bytes += Size(c)
				b.changes++
				return c, true
			}
		}
	}
}

// over is a list as a row. What was told is forgotten: it is at hand no more.
func over(l []api.Change) func() (api.Change, bool) {
	return func() (api.Change, bool) {
		if len(l) == 0 {
			return api.Change{}, false
		}
		c := l[0]
		l[0] = api.Change{}
		l = l[1:]
		return c, true
	}
}

// Next tells the next one; false: there is none.
func (s *Stream) Next() (api.Change, bool, api.Errno) {
	switch {
	case s.buffer == nil:
		return api.Change{}, false, api.OK
	case s.wrong != api.OK:
		return api.Change{}, false, s.wrong
	}
	c, is := s.rows.Next()
	if !is {
		return api.Change{}, false, s.end()
	}
	s.buffer.bytes -= Size(c)
	s.buffer.changes--
	return plain(c), true, api.OK
}

// end lets the transaction be over, if its files can be removed.
func (s *Stream) end() api.Errno {
	b := s.buffer
	if e := b.files.Remove(s.whole.xid); e != api.OK {
		return e
	}
	b.forget(s.whole)
	b.told = nil
	*s = Stream{}
	return api.OK
}

// plain is a change whose rows are nil, if they have no values: so it is the same, whether it stood in a file or not.
func plain(c api.Change) api.Change {
	if len(c.Old) == 0 {
		c.Old = nil
	}
	if len(c.New) == 0 {
		c.New = nil
	}
	return c
}
