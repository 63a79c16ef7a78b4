package store

import "confluence/api"

// maxPosition is behind the last position that there is.
const maxPosition = (api.MaxSegments + 1) * api.SegmentSize

// Begin begins a transaction; its number.
func (s *Store) Begin() (int, api.Errno) {
	return s.call(func() (int, api.Errno) {
		xid := s.xacts.Next()
		_, e := s.write(api.Rec{Kind: api.RecBegin})
		return xid, e
	})
}

// Commit lets a transaction last; the position of its commit.
func (s *Store) Commit(xid int) (int, api.Errno) { return s.CommitFrom(xid, "", 0) }

// CommitFrom likewise; it notes up to where an origin was followed.
func (s *Store) CommitFrom(xid int, origin string, lsn int) (int, api.Errno) {
	return s.call(func() (int, api.Errno) {
		fromNowhere := origin == "" && lsn == 0
		if !fromNowhere && !isOrigin(origin, lsn) {
			return 0, api.ErrArg
		}
		if _, e := s.transaction(xid); e != api.OK {
			return 0, e
		}
		return s.writeLasting(api.Rec{Kind: api.RecCommit, Xid: xid, Name: origin, Origin: lsn})
	})
}

// Abort forgets one.
func (s *Store) Abort(xid int) api.Errno {
	return s.just(func() (int, api.Errno) {
		if _, e := s.transaction(xid); e != api.OK {
			return 0, e
		}
		return s.write(api.Rec{Kind: api.RecAbort, Xid: xid})
	})
}

// Prepare lets one wait, under a name, for its end; that lasts.
func (s *Store) Prepare(xid int, name string) api.Errno {
	return s.just(func() (int, api.Errno) {
		if _, e := s.named(xid, name); e != api.OK {
			return 0, e
		}
		return s.writeLasting(api.Rec{Kind: api.RecPrepare, Xid: xid, Name: name})
	})
}

// CommitPrepared ends such a one.
func (s *Store) CommitPrepared(name string) (int, api.Errno) {
	return s.call(func() (int, api.Errno) { return s.endPrepared(name, api.RecCommit) })
}

// AbortPrepared likewise.
func (s *Store) AbortPrepared(name string) api.Errno {
	return s.just(func() (int, api.Errno) { return s.endPrepared(name, api.RecAbort) })
}

// endPrepared ends the one that waits under a name, by a record of a kind.
func (s *Store) endPrepared(name string, kind int) (int, api.Errno) {
	xid, waits := s.waiting[name]
	if !waits {
		return 0, api.ErrStoreName
	}
	return s.writeLasting(api.Rec{Kind: kind, Xid: xid})
}

// isOrigin tells whether something may be followed under a name up to a position.
func isOrigin(name string, lsn int) bool { return isName(name) && isPosition(lsn) }

func isPosition(lsn int) bool { return lsn >= 1 && lsn <= maxPosition }
