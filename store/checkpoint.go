package store

import (
	"confluence/api"
	"confluence/code"
)

// The base is written aside, and takes its name when it is whole.
const (
	baseName  = "base"
	asideName = "base.new"
)

// Checkpoint writes all that is committed aside, so that the log ahead of it is not needed; its position.
func (s *Store) Checkpoint() (int, api.Errno) { return s.call(s.rebase) }

// Trim takes segments of the log away that neither the store needs nor whoever reads from a position on; how many.
func (s *Store) Trim(lsn int) (int, api.Errno) {
	return s.call(func() (int, api.Errno) { return s.log.Trim(min(lsn, s.based)) })
}

// rebase writes a base for the log as it is, and then notes that in the log: the note's position.
func (s *Store) rebase() (int, api.Errno) {
	r, e := s.do(api.Rec{Kind: api.RecCheckpoint})
	if e == api.OK {
		e = s.log.Flush()
	}
	position := s.log.End()
	if e == api.OK {
		e = s.writeBase(s.pages(position, r))
	}
	if e != api.OK {
		return 0, e
	}
	s.based = position
	at, e := s.append(r)
	if e == api.OK {
		e = s.log.Flush()
	}
	return at, e
}

// writeBase lets these pages be the base.
func (s *Store) writeBase(pages []string) api.Errno {
	e := s.removeAside()
	if e == api.OK {
		e = s.disk.Create(asideName)
	}
	for _, page := range pages {
		if e == api.OK {
			frame, _ := code.Frame(page)
			e = s.disk.Append(asideName, frame)
		}
	}
	if e == api.OK {
		e = s.disk.Sync(asideName)
	}
	if e == api.OK {
		e = s.disk.Rename(asideName, baseName)
	}
	return e
}

// removeAside takes away what somebody has left who did not come to an end.
func (s *Store) removeAside() api.Errno {
	if !has(s.disk, asideName) {
		return api.OK
	}
	return s.disk.Remove(asideName)
}
