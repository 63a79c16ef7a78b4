package copying

import (
	"slices"

	"confluence/api"
	"confluence/catalog"
	"confluence/publish"
)

// taken is a copy that was read.
type taken struct {
	lsn    int
	tables []table
}

// table is one of a copy, with its rows.
type table struct {
	tab  api.Table
	rows []api.Row
	keys map[api.Value]struct{}
}

// read is the copy that messages are; false: they are none.
func read(messages []string) (taken, bool) {
	if len(messages) == 0 {
		return taken{}, false
	}
	last := len(messages) - 1
	from, begins := end(messages[0], api.MsgCopy)
	to, ends := end(messages[last], api.MsgCopied)
	if !begins || !ends || from != to {
		return taken{}, false
	}
	c := taken{lsn: from}
	for _, s := range messages[1:last] {
		if !c.add(s) {
			return taken{}, false
		}
	}
	return c, true
}

// end is the place that a copy's first or last message tells; false, if that is of another kind, or none.
func end(s string, kind int) (int, bool) {
	m, e := publish.Decode(s)
	return m.Lsn, e == api.OK && m.Kind == kind
}

// add lays what stands between those two behind what came ahead of it; false: it may not stand there.
func (c *taken) add(s string) bool {
	m, e := publish.Decode(s)
	switch {
	case e != api.OK:
		return false
	case m.Kind == api.MsgTable:
		return c.addTable(m.Tab)
	case m.Kind == api.MsgInsert && len(c.tables) > 0:
		return c.tables[len(c.tables)-1].addRow(m)
	}
	return false
}

func (c *taken) addTable(tab api.Table) bool {
	if slices.ContainsFunc(c.tables, func(t table) bool { return t.tab.ID == tab.ID || t.tab.Name == tab.Name }) {
		return false
	}
	c.tables = append(c.tables, table{tab: tab, keys: map[api.Value]struct{}{}})
	return true
}

func (t *table) addRow(m api.Message) bool {
	if m.Table != t.tab.ID || len(m.New) != len(t.tab.Columns) {
		return false
	}
	_, e := catalog.Fit(t.tab, m.New)
	key := m.New[t.tab.Key]
	if _, there := t.keys[key]; there || e != api.OK {
		return false
	}
	t.keys[key] = struct{}{}
	t.rows = append(t.rows, m.New)
	return true
}
