package session

import (
	"confluence/api"
	"confluence/query"
	"confluence/store"
)

// session is one of them.
type session struct {
	store  *store.Store
	xid    int  // the transaction that it has open; 0: none
	failed bool // whether that has failed
	// next is how the next statement is done: as the two above say, with which it is set.
	next func(*query.Stmt, *api.Event) api.Answer
}

// begun is a session of a store that has done nothing yet.
func begun(s *store.Store) *session {
	x := &session{store: s}
	x.close()
	return x
}

// open lets a transaction be open that has not failed.
func (s *session) open(xid int) { s.xid, s.failed, s.next = xid, false, s.inside }

// fail lets the transaction that is open have failed.
func (s *session) fail() { s.failed, s.next = true, s.stuck }

// close lets none be open.
func (s *session) close() { s.xid, s.failed, s.next = 0, false, s.outside }

// step does a statement, and adds to its note what is not known ahead of it. What is refused may be half done: so a
// transaction that is still open then has failed.
func (s *session) step(q *query.Stmt, note *api.Event) (a api.Answer) {
	defer func() {
		if a.Code != api.OK && s.xid != 0 {
			s.fail()
		}
	}()
	return s.next(q, note)
}

// outside does a statement while no transaction is open.
func (s *session) outside(q *query.Stmt, note *api.Event) api.Answer {
	switch q.Kind() {
	case query.Create, query.Drop, query.Widen, query.Empty:
		return s.changeTables(q, note)
	case query.Insert, query.Update, query.Delete, query.Select:
		return s.runAlone(q, note)
	case query.Begin:
		return only(s.begin(note))
	case query.CommitPrepared:
		return only(s.commitPrepared(q.Name(), note))
	case query.RollbackPrepared:
		return only(s.store.AbortPrepared(q.Name()))
	}
	return only(api.ErrQueryOutside)
}

// inside does a statement in the transaction that is open.
func (s *session) inside(q *query.Stmt, note *api.Event) api.Answer {
	switch q.Kind() {
	case query.Insert, query.Update, query.Delete, query.Select:
		return q.Run(s.store, s.xid)
	case query.Commit:
		return only(s.commit(note))
	case query.Rollback:
		return only(s.abort())
	case query.Savepoint:
		return only(s.store.Savepoint(s.xid, q.Name()))
	case query.RollbackTo:
		return only(s.rollbackTo(q.Name()))
	case query.Release:
		return only(s.store.Release(s.xid, q.Name()))
	case query.Prepare:
		return only(s.prepare(q.Name()))
	}
	return only(api.ErrQueryInside)
}

// stuck does a statement while the transaction that is open has failed: it may only be taken back.
func (s *session) stuck(q *query.Stmt, note *api.Event) api.Answer {
	switch q.Kind() {
	case query.Rollback, query.RollbackTo:
		return s.inside(q, note)
	case query.Commit, query.Prepare:
		s.abort()
	}
	return only(api.ErrSessionFailed)
}

// only is an answer that has nothing but its Code.
func only(e api.Errno) api.Answer { return api.Answer{Code: e} }
