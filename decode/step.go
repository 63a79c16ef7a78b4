package decode

import "confluence/api"

// Step reads the next record that lasts; the messages that it makes.
func (d *Decoder) Step() ([]string, api.Errno) {
	return d.step(func() (found, api.Errno) { return read(d.log, d.place) })
}

// step is one of which somebody else reads the record.
func (d *Decoder) step(next func() (found, api.Errno)) ([]string, api.Errno) {
	if d.wrong != api.OK {
		return nil, d.wrong
	}
	r, e := next()
	// Behind the end more may come; nothing else that is wrong is ever put right.
	if e == api.ErrDecodeEnd {
		return nil, e
	}
	var told []string
	if e == api.OK {
		told, e = d.take(r)
	}
	if e != api.OK {
		d.wrong = e
		return nil, e
	}
	d.place = r.next
	return told, api.OK
}

// take does what a record asks for; the messages.
func (d *Decoder) take(r found) ([]string, api.Errno) {
	switch r.Kind {
	case api.RecCommit:
		return d.commit(r)
	case api.RecEmpty:
		return d.empty(r)
	case api.RecCreate, api.RecWiden, api.RecDrop:
		return nil, d.note(r)
	case api.RecCheckpoint:
		if d.buffer.Counts().Open == 0 {
			d.begins = append(d.begins, r.lsn)
		}
		return nil, api.OK
	}
	return nil, answer(d.gather(r))
}

// gather lets the buffer know of what belongs to a transaction.
func (d *Decoder) gather(r found) api.Errno {
	switch r.Kind {
	case api.RecBegin:
		return d.buffer.Begin(r.Xid, r.lsn)
	case api.RecPart:
		return d.buffer.Part(r.Xid, r.Parent, r.lsn)
	case api.RecInsert, api.RecUpdate, api.RecDelete:
		return d.buffer.Add(api.Change{Lsn: r.lsn, Xid: r.Xid, Kind: r.Kind, Table: r.Table, Old: r.Old, New: r.New})
	case api.RecBack:
		return d.buffer.Back(r.Xid)
	case api.RecAbort:
		return d.buffer.Abort(r.Xid)
	}
	// A part that is released, and a transaction that waits, are as they were.
	return api.OK
}

// note notes how a table is from a record on.
func (d *Decoder) note(r found) api.Errno {
	var e api.Errno
	if r.Kind == api.RecDrop {
		e = d.tables.Gone(r.lsn, r.Table)
	} else {
		e = d.tables.Put(r.lsn, r.Tab)
	}
	if e != api.OK {
		return api.ErrDecodeLog
	}
	d.forget(r.lsn)
	return api.OK
}

// forget lets go of what nobody will ask for of tables: how they were ahead of here, and ahead of the oldest transaction that is open.
// It waits till there are twice as many notes as were left the last time: so it costs little beside noting them.
func (d *Decoder) forget(here int) {
	if d.tables.Noted() <= 2*d.noted+api.MaxTables {
		return
	}
	if oldest := d.buffer.Oldest(); oldest > 0 {
		here = oldest
	}
	d.tables.Trim(here)
	d.noted = d.tables.Noted()
}

// answer is what a Step says of what the buffer refuses: what its files say, as they say it; of all else, that the log is wrong.
func answer(e api.Errno) api.Errno {
	switch e {
	case api.OK, api.ErrDead, api.ErrFileFull, api.ErrSpillNone, api.ErrSpillForm:
		return e
	}
	return api.ErrDecodeLog
}
