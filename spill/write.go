package spill

import (
	"errors"
	"strings"

	"confluence/api"
)

// Write writes changes of a transaction as a further segment.
func (s *Store) Write(xid int, l []api.Change) api.Errno {
	bytes, wrong := segmentOf(xid, l)
	if wrong == nil {
		wrong = s.put(xid, bytes)
	}
	if wrong == nil {
		s.segments[xid]++
	}
	return answer(wrong)
}

// segmentOf has the bytes of changes that may be a segment of a transaction.
func segmentOf(xid int, l []api.Change) (string, error) {
	if !isXid(xid) || len(l) == 0 {
		return "", errArg
	}
	var bytes strings.Builder
	ahead := 0 // the Lsn of the change ahead
	for _, c := range l {
		frame, wrong := lay(c)
		if wrong != nil {
			return "", wrong
		}
		if c.Lsn <= ahead {
			return "", errArg
		}
		ahead = c.Lsn
		bytes.WriteString(frame)
	}
	return bytes.String(), nil
}

// put writes the file of a transaction's next segment.
func (s *Store) put(xid int, bytes string) error {
	next := s.segments[xid]
	file := s.fileOf(xid, next)
	switch {
	case s.disk.Dead():
		return fault{file, errDead}
	// The room is asked for ahead of cutting what was left there: the cut would make some.
	case next >= api.MaxSegments || len(bytes) > s.disk.Free():
		return fault{file, errFull}
	}
	if wrong := s.makeEmpty(file); wrong != nil {
		return wrong
	}
	return refused(file, s.disk.Append(file, bytes))
}

// makeEmpty lets an empty file be there, be it a new one or one that was left.
func (s *Store) makeEmpty(file string) error {
	wrong := refused(file, s.disk.Create(file))
	if errors.Is(wrong, errThere) {
		return refused(file, s.disk.Truncate(file, 0))
	}
	return wrong
}
