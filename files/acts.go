package files

import "confluence/api"

// Create makes an empty file.
func (d *Disk) Create(name string) api.Errno {
	if e := d.refuse(name); e != api.OK {
		return e
	}
	if d.files[name] != nil {
		return api.ErrFileThere
	}
	return d.act(func() { d.files[name] = &file{} })
}

// Append writes bytes behind those of a file; they last when it is synced.
func (d *Disk) Append(name, s string) api.Errno {
	f, e := d.find(name)
	if e != api.OK {
		return e
	}
	if len(s) > d.Free() {
		return api.ErrFileFull
	}
	return d.act(func() { d.extend(f, s) })
}

// Sync lets all of a file last.
func (d *Disk) Sync(name string) api.Errno {
	f, e := d.find(name)
	if e != api.OK {
		return e
	}
	failed := false
	e = d.act(func() {
		failed = d.failsNow()
		if !failed {
			f.lasts = len(f.bytes)
		}
	})
	if failed {
		return api.ErrFileSync
	}
	return e
}

// Truncate cuts a file to its first n bytes.
func (d *Disk) Truncate(name string, n int) api.Errno {
	f, e := d.find(name)
	if e != api.OK {
		return e
	}
	if n < 0 || n > len(f.bytes) {
		return api.ErrFileRange
	}
	return d.act(func() { d.cut(f, n) })
}

// Remove takes a file away.
func (d *Disk) Remove(name string) api.Errno {
	if _, e := d.find(name); e != api.OK {
		return e
	}
	return d.act(func() { d.drop(name) })
}

// Rename gives a file another name, in place of whatever had it.
func (d *Disk) Rename(from, to string) api.Errno {
	if !isName(to) {
		return api.ErrFileName
	}
	f, e := d.find(from)
	if e != api.OK {
		return e
	}
	return d.act(func() {
		if from == to {
			return
		}
		d.drop(to)
		delete(d.files, from)
		d.files[to] = f
	})
}

// refuse tells what every call that has a name answers first.
func (d *Disk) refuse(name string) api.Errno {
	switch {
	case !isName(name):
		return api.ErrFileName
	case d.dead:
		return api.ErrDead
	}
	return api.OK
}

// find is the file of a name, or why a call is refused that needs it.
func (d *Disk) find(name string) (*file, api.Errno) {
	if e := d.refuse(name); e != api.OK {
		return nil, e
	}
	f := d.files[name]
	if f == nil {
		return nil, api.ErrFileNone
	}
	return f, api.OK
}

// act tries what nothing refuses any more; it counts, whatever comes of it.
func (d *Disk) act(do func()) api.Errno {
	defer d.countAct()
	if d.toDie == 1 {
		d.dead = true
		return api.ErrDead
	}
	do()
	return api.OK
}

func (d *Disk) countAct() {
	if d.toDie > 0 {
		d.toDie--
	}
}

// failsNow counts an act of Sync, and tells whether it is the one that is to fail.
func (d *Disk) failsNow() bool {
	if d.toFail > 0 {
		d.toFail--
		return d.toFail == 0
	}
	return false
}

// Arm lets the disk die at the n-th act from now on (0: at none).
func (d *Disk) Arm(n int) api.Errno { return d.schedule(&d.toDie, n) }

// FailSync lets the n-th Sync from now on fail (0: none).
func (d *Disk) FailSync(n int) api.Errno { return d.schedule(&d.toFail, n) }

func (d *Disk) schedule(due *int, n int) api.Errno {
	if n < 0 {
		return api.ErrArg
	}
	if d.dead {
		return api.ErrDead
	}
	*due = n
	return api.OK
}
