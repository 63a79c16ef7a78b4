package apply_test

import (
	"slices"

	"confluence/api"
	"confluence/files"
	"confluence/store"
)

// words takes messages by the words of Y2 to Y4, one sentence behind the other, on a store of its own.
type words struct {
	d            *files.Disk
	s            *store.Store
	origin       string
	inside, over bool // is it inside of a transaction? Is that passed over?
	xid, lsn     int
	local        int
	came         []api.Table // each MsgTable of the transaction
	done, all    api.Tally   // of the transaction; of all that were committed
}

// fails is what lets a transaction fail.
func (w *words) fails(e api.Errno) api.Errno {
	if !w.over {
		w.s.Abort(w.local)
	}
	w.inside = false
	return e
}

// y2 is Take of a message, or of what is none.
func (w *words) y2(m api.Message, is bool) api.Errno {
	switch {
	case !is:
		return api.ErrApplyMessage
	case w.s.Doubt():
		w.inside = false
		if w.d.Dead() {
			return api.ErrDead
		}
		return api.ErrStoreDoubt
	case m.Kind == api.MsgCopy || m.Kind == api.MsgCopied:
		return api.ErrApplyOrder
	case m.Kind == api.MsgBegin:
		return w.begin(m)
	case !w.inside:
		return api.ErrApplyOrder
	case m.Kind == api.MsgCommit:
		return w.commit(m)
	case w.over:
		return api.OK
	case m.Kind == api.MsgTable:
		if w.followed(m.Tab) == nil {
			return w.fails(api.ErrApplyTable)
		}
		w.came = append(w.came, m.Tab)
		return api.OK
	}
	return w.change(m)
}

func (w *words) begin(m api.Message) api.Errno {
	if w.inside {
		return api.ErrApplyOrder
	}
	over := m.Lsn < w.s.Origin(w.origin)
	local := 0
	if !over {
		x, e := w.s.Begin()
		if e != api.OK {
			return e
		}
		local = x
	}
	w.inside, w.over, w.xid, w.lsn, w.local = true, over, m.Xid, m.Lsn, local
	w.came, w.done = nil, api.Tally{}
	return api.OK
}

func (w *words) commit(m api.Message) api.Errno {
	if m.Xid != w.xid || m.Lsn != w.lsn {
		return w.fails(api.ErrApplyOrder)
	}
	w.inside = false
	if w.over {
		return api.OK
	}
	if _, e := w.s.CommitFrom(w.local, w.origin, m.End); e != api.OK {
		return e
	}
	a, b := w.all, w.done
	w.all = tally(a.Whole+1, a.Inserted+b.Inserted, a.Updated+b.Updated, a.Deleted+b.Deleted, a.Missed+b.Missed)
	return api.OK
}

// change is what Y2 and Y3 say of a change of a transaction that is not passed over.
func (w *words) change(m api.Message) api.Errno {
	at := -1
	for i, t := range w.came {
		if t.ID == m.Table {
			at = i
		}
	}
	if at < 0 {
		return w.fails(api.ErrApplyOrder)
	}
	tab := w.came[at]
	rows := map[int][]api.Row{api.MsgInsert: {m.New}, api.MsgUpdate: {m.Old, m.New}, api.MsgDelete: {m.Old}}[m.Kind]
	for _, row := range rows {
		if len(row) != len(tab.Columns) {
			return w.fails(api.ErrApplyMessage)
		}
	}
	t := w.followed(tab)
	if t == nil {
		return w.fails(api.ErrApplyTable)
	}
	if m.Kind == api.MsgUpdate && m.Old[tab.Key] != m.New[tab.Key] {
		return w.fails(api.ErrApplyMessage)
	}
	switch e := w.y3(m, tab, *t); e {
	case api.OK:
		return api.OK
	case api.ErrDead, api.ErrStoreDoubt:
		return w.fails(e)
	}
	return w.fails(api.ErrApplyFailed)
}

// y3 tells what the store says.
func (w *words) y3(m api.Message, tab, t api.Table) api.Errno {
	if m.Kind == api.MsgEmpty {
		for _, row := range slices.Collect(w.s.Scan(w.local, t.Name)) {
			if e := w.s.Delete(w.local, t.Name, row[t.Key]); e != api.OK {
				return e
			}
			w.done.Deleted++
		}
		return api.OK
	}
	row := m.New
	if m.Kind == api.MsgDelete {
		row = m.Old
	}
	key := row[tab.Key]
	there, e := w.s.Get(w.local, t.Name, key)
	if e != api.OK && e != api.ErrRowNone {
		return e
	}
	switch {
	case m.Kind == api.MsgDelete && e == api.ErrRowNone:
		w.done.Missed++
		return api.OK
	case m.Kind == api.MsgDelete:
		w.done.Deleted++
		return w.s.Delete(w.local, t.Name, key)
	}
	// The row that it makes, by names.
	comes := map[string]api.Value{}
	for i, c := range tab.Columns {
		comes[c.Name] = row[i]
	}
	var makes api.Row
	for i, c := range t.Columns {
		x, is := comes[c.Name]
		if !is && e == api.OK {
			x = there[i]
		}
		makes = append(makes, x)
	}
	if e == api.OK {
		w.done.Updated++
		return w.s.Update(w.local, t.Name, makes)
	}
	w.done.Inserted++
	return w.s.Insert(w.local, t.Name, makes)
}

// followed is the local table by which a table is followed; nil: there is none.
func (w *words) followed(tab api.Table) *api.Table {
	for _, t := range w.s.Tables() {
		if t.Name == tab.Name && follows(tab, t) {
			return &t
		}
	}
	return nil
}

func follows(tab, t api.Table) bool {
	local := map[string]api.Column{}
	for _, c := range t.Columns {
		local[c.Name] = c
	}
	for _, c := range tab.Columns {
		x, is := local[c.Name]
		if !is || x.Kind != c.Kind {
			return false
		}
		delete(local, c.Name)
	}
	for _, c := range local {
		if !c.Null {
			return false
		}
	}
	return tab.Columns[tab.Key].Name == t.Columns[t.Key].Name
}
