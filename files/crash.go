package files

import "confluence/api"

// Crash loses what does not last, but so many bytes of these files; the disk lives again.
func (d *Disk) Crash(l []api.Keep) api.Errno {
	kept, e := d.keeps(l)
	if e != api.OK {
		return e
	}
	for name, f := range d.files {
		d.cut(f, f.lasts+kept[name])
		f.lasts = len(f.bytes)
	}
	d.dead = false
	d.toDie = 0
	d.toFail = 0
	return api.OK
}

// keeps has for each file of l how many of its pending bytes stay.
func (d *Disk) keeps(l []api.Keep) (map[string]int, api.Errno) {
	kept := map[string]int{}
	for _, k := range l {
		if !isName(k.Name) {
			return nil, api.ErrFileName
		}
		f := d.files[k.Name]
		if f == nil {
			return nil, api.ErrFileNone
		}
		_, twice := kept[k.Name]
		if twice || k.Bytes < 0 || k.Bytes > f.pending() {
			return nil, api.ErrFileKeep
		}
		kept[k.Name] = k.Bytes
	}
	return kept, api.OK
}
