package store

import (
	"confluence/api"
	"confluence/record"
)

// call runs what may ask something of the disk or the log. If that is refused, what was done in memory by then may not
// be in the log, or may be there and not last: so nobody is to see any of it, and the store is in doubt.
func (s *Store) call(do func() (int, api.Errno)) (n int, e api.Errno) {
	if s.doubt {
		return 0, s.refusal()
	}
	defer func() {
		if isRefusal(e) {
			s.doubt = true
			s.memory = blank()
			e = s.refusal()
		}
		if e != api.OK {
			n = 0
		}
	}()
	return do()
}

// just is call of what tells no number.
func (s *Store) just(do func() (int, api.Errno)) api.Errno {
	_, e := s.call(do)
	return e
}

// isRefusal tells whether an error is one of the disk or the log: the store itself answers none of these.
func isRefusal(e api.Errno) bool {
	return e == api.ErrDead || e >= api.ErrFileName && e <= api.ErrWalFull
}

// refusal is what each call answers that can answer an error, while the store is in doubt.
func (s *Store) refusal() api.Errno {
	if s.disk.Dead() {
		return api.ErrDead
	}
	return api.ErrStoreDoubt
}

// write does a record in memory, and then logs it: its position.
func (s *Store) write(r api.Rec) (int, api.Errno) {
	whole, e := s.do(r)
	if e != api.OK {
		return 0, e
	}
	return s.append(whole)
}

// writeLasting is write, and lets the log last up to there.
func (s *Store) writeLasting(r api.Rec) (int, api.Errno) {
	at, e := s.write(r)
	if e != api.OK {
		return 0, e
	}
	return at, s.log.Flush()
}

// append logs records that are whole, and so can be encoded: the last one's position.
func (s *Store) append(l ...api.Rec) (at int, e api.Errno) {
	for _, r := range l {
		payload, _ := record.Encode(r)
		at, e = s.log.Append(payload)
		if e != api.OK {
			return 0, e
		}
	}
	return at, api.OK
}
