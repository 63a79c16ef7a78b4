package spill

import (
	"confluence/api"
	"confluence/files"
)

// maxFrame is how many bytes a frame may have.
const maxFrame = api.FrameHead + api.MaxPayload

// Cursor is at a place of one.
type Cursor struct {
	disk *files.Disk
	file string
	at   int
}

// Cursor reads a segment from its beginning on.
func (s *Store) Cursor(xid, segment int) (*Cursor, api.Errno) {
	switch {
	case segment < 0 || segment >= s.segments[xid]:
		return nil, api.ErrSpillNone
	case s.disk.Dead():
		return nil, api.ErrDead
	}
	return &Cursor{disk: s.disk, file: s.fileOf(xid, segment)}, api.OK
}

// Next tells the next change; false: there is none.
func (c *Cursor) Next() (api.Change, bool, api.Errno) {
	bytes, wrong := c.ahead()
	if wrong != nil || bytes == "" {
		return api.Change{}, false, answer(wrong)
	}
	x, size, wrong := take(bytes)
	if wrong != nil {
		return api.Change{}, false, answer(wrong)
	}
	c.at += size
	return x, true, api.OK
}

// ahead has the bytes at the cursor's place, no more of them than a change may have; none, at the file's end.
func (c *Cursor) ahead() (string, error) {
	size, e := c.disk.Size(c.file)
	if e != api.OK {
		return "", refused(c.file, e)
	}
	// Of a file that was cut ahead of the cursor's place there are fewer than no bytes, which the disk refuses.
	bytes, e := c.disk.Read(c.file, c.at, min(size-c.at, maxFrame))
	return bytes, refused(c.file, e)
}
