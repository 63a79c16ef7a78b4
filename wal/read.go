package wal

import (
	"iter"
	"strings"

	"confluence/api"
	"confluence/code"
	"confluence/files"
)

// Read reads the record at a position, and tells the next one's.
func (l *Log) Read(lsn int) (string, int, api.Errno) {
	switch {
	case lsn < l.First():
		return "", 0, api.ErrWalGone
	case l.isEnd(lsn):
		return "", 0, api.ErrWalEnd
	case l.disk.Dead():
		return "", 0, api.ErrDead
	}
	// The place behind a record is, or stands for, that of the one that follows it; behind the last one it is the end.
	payload, next := "", l.end
	walk(l.disk, lsn, l.end, func(at int, s string) bool {
		if payload != "" {
			next = at
			return false
		}
		payload = s
		return true
	})
	if payload == "" {
		return "", 0, api.ErrWalPlace
	}
	return payload, next, api.OK
}

// isEnd tells whether a place of the log is at the end or behind it, or stands for the end.
func (l *Log) isEnd(lsn int) bool {
	return lsn >= l.end || lsn == l.behind || lsn > l.behind && lsn%api.SegmentSize == 0
}

// Scan goes over the records that last, from a position on.
func (l *Log) Scan(from int) iter.Seq2[int, string] {
	return func(yield func(int, string) bool) {
		if !l.disk.Dead() {
			walk(l.disk, max(from, l.First()), l.flushed, yield)
		}
	}
}

// walk goes over the records ahead of the place to, from the one on that begins at from, or at the place that
// it stands for; over none, if there is no such one.
func walk(d *files.Disk, from, to int, yield func(int, string) bool) {
	next := from // where the next one that is told must begin
segments:
	for k := from / api.SegmentSize; startOf(k) < to; k++ {
		text, ok := load(d, k, min(api.SegmentSize, to-startOf(k)))
		if !ok {
			return
		}
		for at := startOf(k); ; {
			payload, n := firstFrame(text[at-startOf(k):])
			if at > next || at < next && n == 0 {
				break segments
			}
			if n == 0 {
				next = startOf(k + 1)
				continue segments
			}
			if at == next {
				// Cloned: whoever keeps a payload is not to keep its whole segment.
				if !yield(at, strings.Clone(payload)) {
					break segments
				}
				next += n
			}
			at += n
		}
	}
}

// firstFrame is the payload of the right frame with which a text begins, and how many bytes it has; none, if it has 0.
func firstFrame(text string) (string, int) {
	payload, n, e := code.Unframe(text)
	if e != api.OK || payload == "" {
		return "", 0
	}
	return payload, n
}

// load copies the first n bytes of a segment into new memory; false, if they are not to be had.
func load(d *files.Disk, segment, n int) (string, bool) {
	s, e := d.Read(nameOf(segment), 0, n)
	if e != api.OK {
		return "", false
	}
	own := make([]byte, n)
	copy(own, s)
	return string(own), true
}
