package apply

import "confluence/api"

func (a *Applier) insert(m api.Message) api.Errno {
	return a.change(m.Table, func(f follower) api.Errno { return a.put(f, m.New) }, m.New)
}

func (a *Applier) update(m api.Message) api.Errno {
	return a.change(m.Table, func(f follower) api.Errno { return a.put(f, m.New) }, m.Old, m.New)
}

func (a *Applier) remove(m api.Message) api.Errno {
	return a.change(m.Table, func(f follower) api.Errno { return a.drop(f, f.key(m.Old)) }, m.Old)
}

func (a *Applier) empty(m api.Message) api.Errno { return a.change(m.Table, a.dropAll) }

// change makes a change in the local transaction, of the table that was told by that number. The rows are those of the
// message; they must have one key.
func (a *Applier) change(table int, do func(follower) api.Errno, rows ...api.Row) api.Errno {
	if a.open.isPassedOver() {
		return api.OK
	}
	told, came := a.open.tables[table]
	if !came {
		return api.ErrApplyOrder
	}
	for _, r := range rows {
		if len(r) != len(told.Columns) {
			return api.ErrApplyMessage
		}
	}
	f, is := a.follow(told)
	if !is {
		return api.ErrApplyTable
	}
	for _, r := range rows {
		if f.key(r) != f.key(rows[0]) {
			return api.ErrApplyMessage
		}
	}
	return refusal(do(f))
}

// refusal is what is told of what the store says of a change.
func refusal(e api.Errno) api.Errno {
	switch e {
	case api.OK, api.ErrDead, api.ErrStoreDoubt:
		return e
	}
	return api.ErrApplyFailed
}

// find is the local row of a key; false: there is none.
func (a *Applier) find(f follower, key api.Value) (api.Row, bool, api.Errno) {
	r, e := a.store.Get(a.open.local, f.local.Name, key)
	if e == api.ErrRowNone {
		return nil, false, api.OK
	}
	return r, e == api.OK, e
}

// put lets the row be there that one makes that comes.
func (a *Applier) put(f follower, r api.Row) api.Errno {
	x := a.open
	old, there, e := a.find(f, f.key(r))
	switch {
	case e != api.OK:
		return e
	case there:
		x.tally.Updated++
		return a.store.Update(x.local, f.local.Name, f.made(old, r))
	}
	x.tally.Inserted++
	return a.store.Insert(x.local, f.local.Name, f.made(nil, r))
}

// drop takes the row of a key away, if there is one.
func (a *Applier) drop(f follower, key api.Value) api.Errno {
	x := a.open
	_, there, e := a.find(f, key)
	switch {
	case e != api.OK:
		return e
	case !there:
		x.tally.Missed++
		return api.OK
	}
	x.tally.Deleted++
	return a.store.Delete(x.local, f.local.Name, key)
}

// dropAll takes all rows away. Their keys are read ahead of that: nothing may change while rows are gone over.
func (a *Applier) dropAll(f follower) api.Errno {
	var keys []api.Value
	for r := range a.store.Scan(a.open.local, f.local.Name) {
		keys = append(keys, r[f.local.Key])
	}
	for _, key := range keys {
		if e := a.drop(f, key); e != api.OK {
			return e
		}
	}
	return api.OK
}
