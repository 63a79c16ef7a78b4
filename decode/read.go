package decode

import (
	"confluence/api"
	"confluence/record"
	"confluence/wal"
)

// found is a record that was read.
type found struct {
	api.Rec
	lsn  int // its position
	end  int // where its frame ends, whatever follows it
	next int // where the next one is read
}

// read reads the record at a place of a log; ErrDecodeEnd, if there is none.
func read(l *wal.Log, place int) (found, api.Errno) {
	if place >= l.Flushed() {
		return found{}, api.ErrDecodeEnd
	}
	payload, next, e := l.Read(place)
	switch e {
	case api.OK:
	case api.ErrDead:
		return found{}, e
	case api.ErrWalEnd:
		return found{}, api.ErrDecodeEnd
	default:
		return found{}, api.ErrDecodeLog
	}
	size := api.FrameHead + len(payload)
	lsn, lasts := positionOf(l, place, size, next)
	if !lasts {
		return found{}, api.ErrDecodeEnd
	}
	r, e := record.Decode(payload)
	if e != api.OK {
		return found{}, api.ErrDecodeLog
	}
	return found{r, lsn, lsn + size, next}, api.OK
}

// positionOf is where the record begins that was read at a place, with the size of its frame and the next one's place: there, or at the place that it stands for; false, if that one does not last yet.
func positionOf(l *wal.Log, place, size, next int) (int, bool) {
	// One that begins behind the place would reach further.
	if place+size == next {
		return place, true
	}
	for lsn := range l.Scan(place) {
		return lsn, true
	}
	return 0, false
}
