package session_test

import (
	"confluence/api"
	"confluence/query"
	"confluence/store"
)

// said is a statement as whoever made it knows it: its kind (0: it is none), how it is written, how it is printed, its
// name; of a change of tables which call of the store it is.
type said struct {
	kind          int
	text, printed string
	name          string
	change        func(*store.Store) (int, api.Errno)
}

// words does steps by the words of J2 to J9, one sentence behind the other, on a store of its own. What a session has
// open stands under its number, from 1 on.
type words struct {
	s      *store.Store
	n      int
	xid    map[int]int
	failed map[int]bool
	events []api.Event
}

func byWords(s *store.Store, n int) *words {
	return &words{s: s, n: n, xid: map[int]int{}, failed: map[int]bool{}}
}

// none lets a session have none open.
func (w *words) none(who int) {
	delete(w.xid, who)
	delete(w.failed, who)
}

// j2 is Step.
func (w *words) j2(who int, x said) api.Answer {
	if who < 1 || who > w.n {
		return api.Answer{Code: api.ErrSessionNone}
	}
	if x.kind == 0 {
		_, e, _ := query.Parse(x.text)
		return api.Answer{Code: e}
	}
	e := api.Event{Session: who, Xid: w.xid[who], Text: x.printed}
	a := w.j3(who, x, &e)
	if a.Code != api.OK {
		a = api.Answer{Code: a.Code}
	}
	e.Code = a.Code
	w.events = append(w.events, e)
	return a
}

func (w *words) j3(who int, x said, e *api.Event) api.Answer {
	if !w.failed[who] || x.kind == query.Rollback || x.kind == query.RollbackTo {
		return w.rest(who, x, e)
	}
	if x.kind == query.Commit || x.kind == query.Prepare {
		w.s.Abort(w.xid[who])
		w.none(who)
	}
	return api.Answer{Code: api.ErrSessionFailed}
}

// rest is J4 to J6, with J7 behind them.
func (w *words) rest(who int, x said, e *api.Event) api.Answer {
	var a api.Answer
	switch x.kind {
	case query.Create, query.Drop, query.Widen, query.Empty, query.CommitPrepared, query.RollbackPrepared:
		e.Lsn, a.Code = w.j4(who, x)
	case query.Insert, query.Update, query.Delete, query.Select:
		a = w.j6(who, x, e)
	default:
		a.Code = w.j5(who, x, e)
	}
	if a.Code != api.OK && w.xid[who] != 0 && x.kind != query.Commit && x.kind != query.Rollback {
		w.failed[who] = true
	}
	return a
}

func (w *words) j4(who int, x said) (int, api.Errno) {
	if w.xid[who] != 0 {
		return 0, api.ErrQueryInside
	}
	switch x.kind {
	case query.CommitPrepared:
		return w.s.CommitPrepared(x.name)
	case query.RollbackPrepared:
		return 0, w.s.AbortPrepared(x.name)
	}
	return x.change(w.s)
}

func (w *words) j5(who int, x said, e *api.Event) (code api.Errno) {
	if x.kind == query.Begin {
		if w.xid[who] != 0 {
			return api.ErrQueryInside
		}
		xid, code := w.s.Begin()
		if code == api.OK {
			e.Xid, w.xid[who] = xid, xid
		}
		return code
	}
	xid := w.xid[who]
	if xid == 0 {
		return api.ErrQueryOutside
	}
	switch x.kind {
	case query.Commit:
		e.Lsn, code = w.s.Commit(xid)
		w.none(who)
	case query.Rollback:
		code = w.s.Abort(xid)
		w.none(who)
	case query.Prepare:
		code = w.s.Prepare(xid, x.name)
		if code == api.OK {
			w.none(who)
		}
	case query.Savepoint:
		code = w.s.Savepoint(xid, x.name)
	case query.Release:
		code = w.s.Release(xid, x.name)
	case query.RollbackTo:
		code = w.s.RollbackTo(xid, x.name)
		if code == api.OK {
			w.failed[who] = false
		}
	}
	return code
}

func (w *words) j6(who int, x said, e *api.Event) api.Answer {
	q, _, _ := query.Parse(x.text)
	if w.xid[who] != 0 {
		return q.Run(w.s, w.xid[who])
	}
	xid, code := w.s.Begin()
	if code != api.OK {
		return api.Answer{Code: code}
	}
	e.Xid = xid
	a := q.Run(w.s, xid)
	if a.Code != api.OK {
		w.s.Abort(xid)
		return a
	}
	e.Lsn, a.Code = w.s.Commit(xid)
	return a
}

// j9 is Quit.
func (w *words) j9(who int) api.Errno {
	if who < 1 || who > w.n {
		return api.ErrSessionNone
	}
	e := api.OK
	if w.xid[who] != 0 {
		e = w.s.Abort(w.xid[who])
	}
	w.none(who)
	return e
}
