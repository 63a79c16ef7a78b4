package files

import (
	"maps"
	"slices"

	"confluence/api"
)

// Read reads n bytes of a file, from a place on.
func (d *Disk) Read(name string, from, n int) (string, api.Errno) {
	f, e := d.find(name)
	if e != api.OK {
		return "", e
	}
	// The sum of from and n is not asked: it may run over.
	if from < 0 || n < 0 || from > len(f.bytes) || n > len(f.bytes)-from {
		return "", api.ErrFileRange
	}
	return string(f.bytes[from : from+n]), api.OK
}

// Size tells how many bytes a file has.
func (d *Disk) Size(name string) (int, api.Errno) {
	f, e := d.find(name)
	if e != api.OK {
		return 0, e
	}
	return len(f.bytes), api.OK
}

// List tells all names, rising.
func (d *Disk) List() []string { return slices.Sorted(maps.Keys(d.files)) }

// Free tells how many bytes there is room for.
func (d *Disk) Free() int { return d.capacity - d.used }

// Dead tells whether it is dead.
func (d *Disk) Dead() bool { return d.dead }

// Pending tells of a file how many bytes do not last yet.
func (d *Disk) Pending(name string) int {
	if f := d.files[name]; f != nil {
		return f.pending()
	}
	return 0
}

// Files tells what lasts.
func (d *Disk) Files() []api.File {
	names := d.List()
	l := make([]api.File, len(names))
	for i, name := range names {
		f := d.files[name]
		l[i] = api.File{Name: name, Bytes: string(f.bytes[:f.lasts])}
	}
	return l
}
