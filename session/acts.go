package session

import (
	"confluence/api"
	"confluence/query"
)

// changeTables notes where the record of the change stands, too, which Run does not tell: it is the only one that the
// log has behind its end of before.
func (s *session) changeTables(q *query.Stmt, note *api.Event) api.Answer {
	end := s.store.Log().End()
	a := q.Run(s.store, 0)
	if a.Code == api.OK {
		note.Lsn = s.firstFrom(end)
	}
	return a
}

// firstFrom is where the first record stands from a place of the log on, which may stand for another one.
func (s *session) firstFrom(place int) int {
	for at := range s.store.Log().Scan(place) {
		return at
	}
	return 0
}

// runAlone does a statement about rows in a transaction that is begun for it.
func (s *session) runAlone(q *query.Stmt, note *api.Event) api.Answer {
	xid, e := s.store.Begin()
	if e != api.OK {
		return only(e)
	}
	note.Xid = xid
	a := q.Run(s.store, xid)
	if a.Code != api.OK {
		s.store.Abort(xid) // whatever that answers: the statement's own Code is told
		return a
	}
	note.Lsn, e = s.store.Commit(xid)
	if e != api.OK {
		return only(e)
	}
	return a
}

func (s *session) begin(note *api.Event) api.Errno {
	xid, e := s.store.Begin()
	if e == api.OK {
		note.Xid = xid
		s.open(xid)
	}
	return e
}

// commit ends the transaction for the session also where the store refuses: nobody could go on with it then.
func (s *session) commit(note *api.Event) (e api.Errno) {
	defer s.close()
	note.Lsn, e = s.store.Commit(s.xid)
	return e
}

// abort likewise.
func (s *session) abort() api.Errno {
	defer s.close()
	return s.store.Abort(s.xid)
}

func (s *session) rollbackTo(name string) api.Errno {
	e := s.store.RollbackTo(s.xid, name)
	if e == api.OK {
		s.open(s.xid) // what had failed is taken back
	}
	return e
}

func (s *session) prepare(name string) api.Errno {
	e := s.store.Prepare(s.xid, name)
	if e == api.OK {
		s.close()
	}
	return e
}

func (s *session) commitPrepared(name string, note *api.Event) (e api.Errno) {
	note.Lsn, e = s.store.CommitPrepared(name)
	return e
}
