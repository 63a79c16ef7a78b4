package store

import (
	"maps"
	"slices"

	"confluence/api"
	"confluence/catalog"
	"confluence/code"
	"confluence/files"
	"confluence/record"
	"confluence/value"
)

// A base begins with this mark.
const baseMark = "CB"

// forgotten is the number that has written the rows of a base: one that no manager knows any more, so that everybody sees them.
const forgotten = 1

// pages are what a base of that position has in its frames, with the checkpoint's record among them.
func (m *memory) pages(position int, r api.Rec) []string {
	checkpoint, _ := record.Encode(r)
	origins, rows := m.originPages(), m.rowPages(r.Tabs)
	head := page(func(w *code.Writer) {
		w.Raw(baseMark)
		w.Var(position)
		w.Var(len(origins))
		w.Var(len(rows))
	})
	return slices.Concat([]string{head, checkpoint}, origins, rows)
}

func (m *memory) originPages() []string {
	var l []string
	for _, name := range slices.Sorted(maps.Keys(m.origins)) {
		l = append(l, page(func(w *code.Writer) {
			w.Text(name, api.MaxName)
			w.Var(m.origins[name])
		}))
	}
	return l
}

func (m *memory) rowPages(tables []api.Table) []string {
	var l []string
	now := m.xacts.Snapshot()
	for _, t := range tables {
		for _, r := range m.heap.Scan(now, 0, t.ID) {
			full, _ := catalog.Fit(t, r)
			bytes, _ := value.Encode(full)
			l = append(l, page(func(w *code.Writer) {
				w.Var(t.ID)
				w.Raw(bytes)
			}))
		}
	}
	return l
}

func page(lay func(*code.Writer)) string {
	w := code.NewWriter()
	lay(w)
	s, _ := w.Done()
	return s
}

// readBase is the memory that a disk's base says; false, if there is none.
func readBase(d *files.Disk) (memory, bool) {
	size, e := d.Size(baseName)
	if e != api.OK {
		return memory{}, false
	}
	text, _ := d.Read(baseName, 0, size)
	pages, ok := unframed(text)
	if !ok || len(pages) < 2 {
		return memory{}, false
	}
	return loadBase(pages[0], pages[1], pages[2:])
}

// unframed are the payloads of a text's frames; false, if it has something else, too.
func unframed(text string) ([]string, bool) {
	var pages []string
	for len(text) > 0 {
		payload, n, e := code.Unframe(text)
		if e != api.OK {
			return nil, false
		}
		pages = append(pages, payload)
		text = text[n:]
	}
	return pages, true
}

// loadBase is what the pages of a base say.
func loadBase(head, checkpoint string, pages []string) (memory, bool) {
	position, origins, rows, ok := takeHead(head)
	r, e := record.Decode(checkpoint)
	// The counts are not added: they may run over.
	if !ok || e != api.OK || r.Kind != api.RecCheckpoint || origins > len(pages) || rows != len(pages)-origins {
		return memory{}, false
	}
	tables, e := catalog.Load(r.Tabs, r.Table)
	if e != api.OK || rows > 0 && r.Xid <= forgotten {
		return memory{}, false
	}
	m := remember(tables, r.Xid)
	m.based = position
	return m, m.takeOrigins(pages[:origins]) && m.takeRows(pages[origins:])
}

func takeHead(head string) (position, origins, rows int, ok bool) {
	from := code.NewReader(head)
	mark := from.Raw(len(baseMark))
	position, origins, rows = from.Var(), from.Var(), from.Var()
	e, _ := from.Done()
	return position, origins, rows, e == api.OK && mark == baseMark && isPosition(position)
}

func (m *memory) takeOrigins(pages []string) bool {
	last := ""
	for _, p := range pages {
		from := code.NewReader(p)
		name, lsn := from.Text(api.MaxName), from.Var()
		if e, _ := from.Done(); e != api.OK || !isOrigin(name, lsn) || name <= last {
			return false
		}
		m.origins[name] = lsn
		last = name
	}
	return true
}

func (m *memory) takeRows(pages []string) bool {
	everything := m.xacts.Snapshot()
	lastTable, lastKey := 0, ""
	for _, p := range pages {
		t, row, ok := m.takeRow(p)
		if !ok {
			return false
		}
		key := keyOf(t, row)
		if t.ID < lastTable || t.ID == lastTable && key <= lastKey {
			return false
		}
		m.heap.Insert(everything, forgotten, t.ID, key, row)
		lastTable, lastKey = t.ID, key
	}
	return true
}

// takeRow is a row that fits its table, as it is.
func (m *memory) takeRow(p string) (api.Table, api.Row, bool) {
	from := code.NewReader(p)
	id := from.Var()
	bytes := from.Raw(from.Left())
	if e, _ := from.Done(); e != api.OK {
		return api.Table{}, nil, false
	}
	row, e := value.Decode(bytes)
	if e != api.OK {
		return api.Table{}, nil, false
	}
	t, e := m.tables.ByID(id)
	if e != api.OK {
		return api.Table{}, nil, false
	}
	full, e := catalog.Fit(t, row)
	return t, full, e == api.OK && len(full) == len(row)
}
