package decode

import "confluence/api"

// changes tells one change behind the other; false: there is none any more.
type changes func() (api.Change, bool, api.Errno)

// commit tells a transaction, unless that is confirmed.
func (d *Decoder) commit(r found) ([]string, api.Errno) {
	if r.end <= d.confirmed {
		return nil, answer(d.buffer.Abort(r.Xid))
	}
	stream, e := d.buffer.Commit(r.Xid)
	if e != api.OK {
		return nil, answer(e)
	}
	return d.tell(r, stream.Next)
}

// empty tells that a table was emptied, unless that is confirmed.
func (d *Decoder) empty(r found) ([]string, api.Errno) {
	if r.end <= d.confirmed {
		return nil, api.OK
	}
	left := true
	return d.tell(r, func() (api.Change, bool, api.Errno) {
		if !left {
			return api.Change{}, false, api.OK
		}
		left = false
		return api.Change{Lsn: r.lsn, Xid: r.Xid, Kind: r.Kind, Table: r.Table}, true, api.OK
	})
}

// tell has all messages of the transaction that a record ends, with these changes.
func (d *Decoder) tell(r found, next changes) ([]string, api.Errno) {
	if d.publisher.Begin(r.Xid, r.lsn) != api.OK {
		return nil, api.ErrDecodeLog
	}
	var told []string
	for {
		c, is, e := next()
		if e != api.OK {
			return nil, answer(e)
		}
		if !is {
			break
		}
		l, e := d.change(c)
		if e != api.OK {
			return nil, e
		}
		told = append(told, l...)
	}
	l, e := d.publisher.Commit(r.end)
	if e != api.OK {
		return nil, api.ErrDecodeLog
	}
	return append(told, l...), api.OK
}

// change has the messages of a change, with its table as it was then.
func (d *Decoder) change(c api.Change) ([]string, api.Errno) {
	t, e := d.tables.At(c.Lsn, c.Table)
	if e != api.OK {
		return nil, api.ErrDecodeLog
	}
	l, e := d.publisher.Change(t, c)
	if e != api.OK {
		return nil, api.ErrDecodeLog
	}
	return l, api.OK
}
