package apply

import "confluence/api"

// transaction is one that is being applied.
type transaction struct {
	xid, lsn int               // as they were told
	local    int               // the store's number for it; 0: it is passed over, and the store has none
	tables   map[int]api.Table // as each was told last, by its number
	tally    api.Tally         // of what was done in it
}

func (x *transaction) isPassedOver() bool { return x.local == 0 }

// taking is how messages of one kind are taken: at which place, and how there.
type taking struct {
	inside bool // within a transaction alone; else outside alone
	take   func(*Applier, api.Message) api.Errno
}

// takings has one for each kind; a kind that is taken nowhere has none.
func takings() [api.MsgCopied + 1]taking {
	return [...]taking{
		api.MsgBegin:  {inside: false, take: (*Applier).begin},
		api.MsgTable:  {inside: true, take: (*Applier).table},
		api.MsgInsert: {inside: true, take: (*Applier).insert},
		api.MsgUpdate: {inside: true, take: (*Applier).update},
		api.MsgDelete: {inside: true, take: (*Applier).remove},
		api.MsgEmpty:  {inside: true, take: (*Applier).empty},
		api.MsgCommit: {inside: true, take: (*Applier).commit},
		api.MsgCopied: {},
	}
}

func (a *Applier) begin(m api.Message) api.Errno {
	x := &transaction{xid: m.Xid, lsn: m.Lsn, tables: map[int]api.Table{}}
	if m.Lsn >= a.Progress() {
		local, e := a.store.Begin()
		if e != api.OK {
			return e
		}
		x.local = local
	}
	a.open = x
	return api.OK
}

func (a *Applier) table(m api.Message) api.Errno {
	if a.open.isPassedOver() {
		return api.OK
	}
	if _, is := a.follow(m.Tab); !is {
		return api.ErrApplyTable
	}
	a.open.tables[m.Tab.ID] = m.Tab
	return api.OK
}

func (a *Applier) commit(m api.Message) api.Errno {
	x := a.open
	if m.Xid != x.xid || m.Lsn != x.lsn {
		return api.ErrApplyOrder
	}
	if !x.isPassedOver() {
		if _, e := a.store.CommitFrom(x.local, a.origin, m.End); e != api.OK {
			return e
		}
		x.tally.Whole++
		a.count(x.tally)
	}
	a.open = nil
	return api.OK
}

// count adds what a transaction has done.
func (a *Applier) count(t api.Tally) {
	a.tally.Whole += t.Whole
	a.tally.Inserted += t.Inserted
	a.tally.Updated += t.Updated
	a.tally.Deleted += t.Deleted
	a.tally.Missed += t.Missed
}

// fail leaves the transaction, if there is one. What the store says of that changes nothing: the error that came first is told.
func (a *Applier) fail() {
	if a.open != nil && !a.open.isPassedOver() {
		a.store.Abort(a.open.local)
	}
	a.open = nil
}
