package copying_test

import (
	"slices"

	"confluence/api"
	"confluence/files"
	"confluence/publish"
	"confluence/store"
)

// doubtByWords is what a store answers that is in doubt.
func doubtByWords(d *files.Disk) api.Errno {
	if d.Dead() {
		return api.ErrDead
	}
	return api.ErrStoreDoubt
}

// k1 is a copy by the words of K1: of a row stands in it what a publisher would tell of its insert.
func k1(d *files.Disk, s *store.Store, p api.Publication) ([]api.Message, int, api.Errno) {
	if publish.Right(p) != api.OK {
		return nil, 0, api.ErrPublishForm
	}
	if s.Doubt() {
		return nil, 0, doubtByWords(d)
	}
	lsn := s.Log().Flushed()
	l := []api.Message{{Kind: api.MsgCopy, Lsn: lsn}}
	for _, x := range p.Tables {
		for _, t := range s.Tables() {
			if t.Name != x.Table {
				continue
			}
			x.Kinds = 15
			alone := api.Publication{Name: "alone", Tables: []api.Published{x}}
			v, is := publish.View(alone, t)
			if !is {
				continue
			}
			l = append(l, api.Message{Kind: api.MsgTable, Tab: v})
			teller, _ := publish.New(alone)
			teller.Begin(1, 9000)
			for _, row := range slices.Collect(s.Scan(0, t.Name)) {
				told, e := teller.Change(t, api.Change{Kind: api.RecInsert, Table: t.ID, New: row})
				if e != api.OK {
					panic("a publisher refuses a row of a store")
				}
				if len(told) > 0 {
					m, _ := publish.Decode(told[len(told)-1])
					l = append(l, m)
				}
			}
		}
	}
	return append(l, api.Message{Kind: api.MsgCopied, Lsn: lsn}), lsn, api.OK
}

// k2 takes messages by the words of K2, one sentence behind the other, into a store of its own.
func k2(d *files.Disk, s *store.Store, origin string, messages []string) (int, api.Errno) {
	if origin != "pub" && origin != "other" {
		return 0, api.ErrArg
	}
	c, is := copyByWords(messages)
	if !is {
		return 0, api.ErrCopyForm
	}
	if s.Doubt() {
		return 0, doubtByWords(d)
	}
	for _, x := range c.tables {
		if followed(s, x.tab) == nil {
			return 0, api.ErrCopyTable
		}
	}
	for _, x := range c.tables {
		if len(slices.Collect(s.Scan(0, x.tab.Name))) > 0 {
			return 0, api.ErrCopyThere
		}
	}
	xid, e := s.Begin()
	if e != api.OK {
		return 0, e
	}
	n := 0
	for _, x := range c.tables {
		t := followed(s, x.tab)
		for _, row := range x.rows {
			switch e := s.Insert(xid, t.Name, makes(x.tab, *t, row)); {
			case e == api.OK:
				n++
				continue
			case s.Doubt():
				return 0, e
			case e == api.ErrRowFit:
				s.Abort(xid)
				return 0, api.ErrCopyTable
			}
			s.Abort(xid)
			return 0, api.ErrCopyThere
		}
	}
	if _, e := s.CommitFrom(xid, origin, c.lsn); e != api.OK {
		return 0, e
	}
	return n, api.OK
}

// makes is the local row, by names.
func makes(tab, t api.Table, row api.Row) api.Row {
	comes := map[string]api.Value{}
	for i, c := range tab.Columns {
		comes[c.Name] = row[i]
	}
	var out api.Row
	for _, c := range t.Columns {
		out = append(out, comes[c.Name])
	}
	return out
}

// followed is the local table by which a table is followed; nil: there is none.
func followed(s *store.Store, tab api.Table) *api.Table {
	for _, t := range s.Tables() {
		if t.Name == tab.Name && follows(tab, t) {
			return &t
		}
	}
	return nil
}

func follows(tab, t api.Table) bool {
	local := map[string]api.Column{}
	for _, c := range t.Columns {
		local[c.Name] = c
	}
	for _, c := range tab.Columns {
		x, is := local[c.Name]
		if !is || x.Kind != c.Kind {
			return false
		}
		delete(local, c.Name)
	}
	for _, c := range local {
		if !c.Null {
			return false
		}
	}
	return tab.Columns[tab.Key].Name == t.Columns[t.Key].Name
}
