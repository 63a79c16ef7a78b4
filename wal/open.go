package wal

import (
	"slices"
	"strings"

	"confluence/api"
	"confluence/files"
)

// Open finds one again, up to the last record that is whole.
func Open(d *files.Disk) (*Log, api.Errno) {
	if d.Dead() {
		return nil, api.ErrDead
	}
	there := segmentsOf(d)
	if len(there) == 0 {
		return nil, api.ErrWalForm
	}
	l := find(d, there)
	if e := l.repair(there); e != api.OK {
		return nil, e
	}
	return l, api.OK
}

// segmentsOf has the numbers of all segments that there are, rising.
func segmentsOf(d *files.Disk) []int {
	var there []int
	for _, name := range d.List() {
		if k, ok := numberOf(name); ok {
			there = append(there, k)
		}
	}
	return there
}

// find is the log of a disk that has these segments; nothing is repaired yet.
func find(d *files.Disk, there []int) *Log {
	l := &Log{disk: d, first: there[0]}
	for i, k := range there {
		if k != l.first+i {
			break
		}
		size, _ := d.Size(nameOf(k))
		text, _ := load(d, k, min(size, api.SegmentSize))
		frames := framesOf(text)
		l.last = k
		l.end = startOf(k) + frames
		if frames > 0 {
			l.behind = l.end
		}
		if size != api.SegmentSize || strings.Trim(text[frames:], "\x00") != "" {
			break
		}
	}
	l.flushed = l.end
	return l
}

// framesOf tells how many bytes the right frames have with which a text begins.
func framesOf(text string) int {
	sum := 0
	for {
		_, n := firstFrame(text[sum:])
		if n == 0 {
			return sum
		}
		sum += n
	}
}

// repair takes away what is no part of the log, and lets the rest last.
func (l *Log) repair(there []int) api.Errno {
	for _, k := range slices.Backward(there) {
		if k == l.last {
			break
		}
		if e := l.disk.Remove(nameOf(k)); e != api.OK {
			return e
		}
	}
	if e := l.cut(); e != api.OK {
		return e
	}
	for k := l.first; k <= l.last; k++ {
		if l.disk.Pending(nameOf(k)) == 0 {
			continue
		}
		if e := l.disk.Sync(nameOf(k)); e != api.OK {
			return e
		}
	}
	return api.OK
}

// cut takes away what stands in the last segment behind the end.
func (l *Log) cut() api.Errno {
	name := nameOf(l.last)
	wanted := l.end - startOf(l.last)
	size, e := l.disk.Size(name)
	if e != api.OK || size == wanted {
		return e
	}
	return l.disk.Truncate(name, wanted)
}
