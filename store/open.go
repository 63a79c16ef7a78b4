package store

import (
	"slices"

	"confluence/api"
	"confluence/files"
	"confluence/wal"
)

// firstSegment is the file with which each log begins that was not trimmed.
const firstSegment = "wal.000001"

// Format lays an empty one down.
func Format(d *files.Disk) api.Errno {
	switch {
	case d.Dead():
		return api.ErrDead
	case has(d, baseName) || has(d, firstSegment):
		return api.ErrStoreThere
	}
	s := &Store{memory: blank(), disk: d}
	return s.just(s.lay)
}

// lay begins the log, and writes the first base.
func (s *Store) lay() (int, api.Errno) {
	e := wal.Create(s.disk)
	if e != api.OK {
		return 0, e
	}
	s.log, e = wal.Open(s.disk)
	if e != api.OK {
		return 0, e
	}
	return s.rebase()
}

// Open begins one on a disk that has it: all that was committed is there again.
func Open(d *files.Disk) (*Store, api.Errno) {
	if d.Dead() {
		return nil, api.ErrDead
	}
	m, ok := readBase(d)
	if !ok {
		return nil, api.ErrStoreForm
	}
	s := &Store{memory: m, disk: d}
	if e := s.just(s.replay); e != api.OK {
		return nil, e
	}
	return s, api.OK
}

// replay finds the log again, and does what it says from the base's position on.
func (s *Store) replay() (int, api.Errno) {
	var e api.Errno
	s.log, e = wal.Open(s.disk)
	if e == api.ErrWalForm || e == api.OK && !begins(s.log, s.based) {
		return 0, api.ErrStoreForm
	}
	if e == api.OK {
		e = s.removeAside()
	}
	if e != api.OK {
		return 0, e
	}
	for _, payload := range s.log.Scan(s.based) {
		if !s.redo(payload) {
			return 0, api.ErrStoreForm
		}
	}
	return 0, s.abortActive()
}

// begins tells whether a log may be read from a position on: a record begins there, or nothing does yet.
func begins(l *wal.Log, lsn int) bool {
	_, _, e := l.Read(lsn)
	return e == api.OK || e == api.ErrWalEnd && lsn <= l.End()
}

// abortActive ends what was active when the store was left. (Where nothing is logged all lasts already.)
func (s *Store) abortActive() api.Errno {
	for _, xid := range s.Active() {
		if _, e := s.write(api.Rec{Kind: api.RecAbort, Xid: xid}); e != api.OK {
			return e
		}
	}
	return s.log.Flush()
}

func has(d *files.Disk, name string) bool { return slices.Contains(d.List(), name) }
