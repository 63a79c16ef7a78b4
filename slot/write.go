package slot

import (
	"confluence/api"
	"confluence/files"
)

// The file that has all slots, and the one in which they are written aside.
const (
	slotsFile = "slots"
	asideFile = "slots.new"
)

// load reads the slots that a living disk has.
func load(d *files.Disk) ([]api.Slot, error) {
	size, e := d.Size(slotsFile)
	if e == api.ErrFileNone {
		return nil, nil
	}
	s, _ := d.Read(slotsFile, 0, size)
	return take(s)
}

// write lets these be the slots, on the disk and here; with an error they are what they were.
func (s *Slots) write(l []api.Slot) (e api.Errno) {
	// Only what stands aside whole, and lasts, may take the place of what is there.
	defer func() {
		if e == api.OK {
			e = s.disk.Rename(asideFile, slotsFile)
		}
		if e == api.OK {
			s.all = l
		}
	}()
	return writeAside(s.disk, lay(l))
}

func writeAside(d *files.Disk, bytes string) api.Errno {
	if e := removeAside(d); e != api.OK {
		return e
	}
	if e := d.Create(asideFile); e != api.OK {
		return e
	}
	if e := d.Append(asideFile, bytes); e != api.OK {
		return e
	}
	return d.Sync(asideFile)
}

// removeAside takes away what was left aside; a dead disk refuses that, also if nothing was.
func removeAside(d *files.Disk) api.Errno {
	if e := d.Remove(asideFile); e != api.ErrFileNone {
		return e
	}
	return api.OK
}
