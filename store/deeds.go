package store

import (
	"confluence/api"
	"confluence/record"
)

// deed is how records of one kind are done, in memory alone: by a call ahead of being logged, and again when the log is
// read. It is handed what is wanted of a record, and answers the whole of it, as it is logged.
type deed struct {
	do func(*memory, api.Rec) (api.Rec, api.Errno)
}

// deeds has one for each kind.
func deeds() [api.RecCheckpoint + 1]deed {
	return [...]deed{
		api.RecBegin:      {do: (*memory).begin},
		api.RecPart:       {do: (*memory).part},
		api.RecInsert:     {do: (*memory).insert},
		api.RecUpdate:     {do: (*memory).update},
		api.RecDelete:     {do: (*memory).remove},
		api.RecRelease:    {do: (*memory).release},
		api.RecBack:       {do: (*memory).back},
		api.RecCommit:     {do: (*memory).commit},
		api.RecAbort:      {do: (*memory).abort},
		api.RecPrepare:    {do: (*memory).prepare},
		api.RecCreate:     {do: (*memory).create},
		api.RecDrop:       {do: (*memory).drop},
		api.RecWiden:      {do: (*memory).widen},
		api.RecEmpty:      {do: (*memory).empty},
		api.RecCheckpoint: {do: (*memory).checkpoint},
	}
}

// do does a record.
func (m *memory) do(r api.Rec) (api.Rec, api.Errno) {
	whole, e := deeds()[r.Kind].do(m, r)
	if e == api.OK {
		m.count()
	}
	return whole, e
}

// redo does what stands in the log; false, if that can't be: whoever did it would have been refused, or would have logged something else.
func (m *memory) redo(payload string) bool {
	r, e := record.Decode(payload)
	if e != api.OK {
		return false
	}
	whole, e := m.do(r)
	if e != api.OK {
		return false
	}
	again, e := record.Encode(whole)
	return e == api.OK && again == payload
}

func (m *memory) begin(r api.Rec) (api.Rec, api.Errno) {
	if len(m.xacts.Open()) >= api.MaxOpen {
		return r, api.ErrStoreMany
	}
	s := m.xacts.Snapshot() // ahead of Begin, so that its own number is not in it
	xid, e := m.xacts.Begin()
	if e != api.OK {
		return r, e
	}
	m.active[xid] = &transaction{xid: xid, snapshot: s}
	r.Xid = xid
	return r, api.OK
}

func (m *memory) part(r api.Rec) (api.Rec, api.Errno) {
	xid, e := m.xacts.Part(r.Parent)
	r.Xid = xid
	return r, e
}

func (m *memory) release(r api.Rec) (api.Rec, api.Errno) { return r, m.xacts.Release(r.Xid) }

func (m *memory) back(r api.Rec) (api.Rec, api.Errno) { return r, m.xacts.Back(r.Xid) }

func (m *memory) commit(r api.Rec) (api.Rec, api.Errno) {
	if e := m.xacts.Commit(r.Xid); e != api.OK {
		return r, e
	}
	m.leave(r.Xid)
	if r.Name != "" {
		m.origins[r.Name] = r.Origin
	}
	return r, api.OK
}

func (m *memory) abort(r api.Rec) (api.Rec, api.Errno) {
	if e := m.xacts.Abort(r.Xid); e != api.OK {
		return r, e
	}
	m.leave(r.Xid)
	return r, api.OK
}

func (m *memory) prepare(r api.Rec) (api.Rec, api.Errno) {
	if m.waiting[r.Name] != 0 {
		return r, api.ErrStoreThere
	}
	if e := m.xacts.Prepare(r.Xid); e != api.OK {
		return r, e
	}
	delete(m.active, r.Xid)
	m.waiting[r.Name] = r.Xid
	return r, api.OK
}
