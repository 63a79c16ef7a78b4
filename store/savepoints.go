package store

import (
	"slices"

	"confluence/api"
	"confluence/record"
)

// Savepoint begins a part of a transaction.
func (s *Store) Savepoint(xid int, name string) api.Errno {
	return s.just(func() (int, api.Errno) {
		x, e := s.named(xid, name)
		switch {
		case e != api.OK:
			return 0, e
		case len(x.savepoints) >= api.MaxDeep:
			return 0, api.ErrStoreDeep
		}
		begun, e := s.do(api.Rec{Kind: api.RecPart, Parent: x.writer()})
		if e != api.OK {
			return 0, e
		}
		x.savepoints = append(x.savepoints, savepoint{name, begun.Xid})
		return s.append(begun)
	})
}

// RollbackTo takes back all that was done since; the savepoint stays.
func (s *Store) RollbackTo(xid int, name string) api.Errno {
	return s.just(func() (int, api.Errno) {
		x, at, e := s.savepoint(xid, name)
		if e != api.OK {
			return 0, e
		}
		// The new part is begun first, though it is logged behind what is taken back: if it is refused nothing has changed.
		begun, e := s.do(api.Rec{Kind: api.RecPart, Parent: x.around(at)})
		if e != api.OK {
			return 0, e
		}
		back, e := s.do(api.Rec{Kind: api.RecBack, Xid: x.savepoints[at].part})
		if e != api.OK {
			return 0, e
		}
		x.savepoints = append(x.savepoints[:at], savepoint{name, begun.Xid})
		return s.append(back, begun)
	})
}

// Release forgets a savepoint; what was done stays.
func (s *Store) Release(xid int, name string) api.Errno {
	return s.just(func() (int, api.Errno) {
		x, at, e := s.savepoint(xid, name)
		if e != api.OK {
			return 0, e
		}
		part := x.savepoints[at].part
		x.savepoints = x.savepoints[:at]
		return s.write(api.Rec{Kind: api.RecRelease, Xid: part})
	})
}

// named is an active transaction, of which something of that name is asked.
func (m *memory) named(xid int, name string) (*transaction, api.Errno) {
	if !isName(name) {
		return nil, api.ErrArg
	}
	return m.transaction(xid)
}

// savepoint is an active transaction, and where the last savepoint of that name stands in it.
func (m *memory) savepoint(xid int, name string) (*transaction, int, api.Errno) {
	x, e := m.named(xid, name)
	if e != api.OK {
		return nil, 0, e
	}
	for at, p := range slices.Backward(x.savepoints) {
		if p.name == name {
			return x, at, api.OK
		}
	}
	return nil, 0, api.ErrStoreName
}

// isName asks for a record, which only a name may stand in.
func isName(s string) bool {
	_, e := record.Encode(api.Rec{Kind: api.RecPrepare, Xid: 1, Name: s})
	return e == api.OK
}
