package wal

import (
	"strings"

	"confluence/api"
	"confluence/code"
)

// Append writes a record; its position.
func (l *Log) Append(payload string) (int, api.Errno) {
	if len(payload) < 1 || len(payload) > api.MaxPayload {
		return 0, api.ErrWalLong
	}
	if e := l.refusal(); e != api.OK {
		return 0, e
	}
	frame, _ := code.Frame(payload)
	if len(frame) > l.room() && l.last == api.MaxSegments {
		return 0, api.ErrWalFull
	}
	// It is written by a copy, so that the log knows nothing of what was begun if it falls into doubt.
	next := *l
	if !next.write(frame) {
		return 0, l.fall()
	}
	*l = next
	return l.end - len(frame), api.OK
}

// room tells how many bytes the last segment can still take.
func (l *Log) room() int { return startOf(l.last+1) - l.end }

// write lays a frame down behind the last record; false, if something was refused.
func (l *Log) write(frame string) bool {
	if len(frame) > l.room() && !l.turn() {
		return false
	}
	if l.disk.Append(nameOf(l.last), frame) != api.OK {
		return false
	}
	l.end += len(frame)
	l.behind = l.end
	return true
}

// turn fills the last segment up, and begins the next one; false, if something was refused.
func (l *Log) turn() bool {
	name := nameOf(l.last)
	noughts := strings.Repeat("\x00", l.room())
	if noughts != "" && l.disk.Append(name, noughts) != api.OK {
		return false
	}
	if l.disk.Sync(name) != api.OK || l.disk.Create(nameOf(l.last+1)) != api.OK {
		return false
	}
	l.last++
	l.end = startOf(l.last)
	l.flushed = l.end
	return true
}

// Flush lets all records last.
func (l *Log) Flush() api.Errno {
	if e := l.refusal(); e != api.OK {
		return e
	}
	if l.flushed == l.end {
		return api.OK
	}
	if l.disk.Sync(nameOf(l.last)) != api.OK {
		return l.fall()
	}
	l.flushed = l.end
	return api.OK
}

// Trim takes whole segments away that are below a position; how many.
func (l *Log) Trim(lsn int) (int, api.Errno) {
	if e := l.refusal(); e != api.OK {
		return 0, e
	}
	count := 0
	for l.first < l.last && startOf(l.first+1) <= lsn {
		if e := l.disk.Remove(nameOf(l.first)); e != api.OK {
			return 0, e
		}
		l.first++
		count++
	}
	return count, api.OK
}

// fall puts the log in doubt, and tells what it answers from then on.
func (l *Log) fall() api.Errno {
	l.doubt = true
	return l.refusal()
}

// refusal is what whoever writes is answered while the log is in doubt; OK, if it is not.
func (l *Log) refusal() api.Errno {
	switch {
	case !l.doubt:
		return api.OK
	case l.disk.Dead():
		return api.ErrDead
	}
	return api.ErrWalDoubt
}
