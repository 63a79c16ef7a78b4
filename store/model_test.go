package store_test

import (
	"cmp"
	"maps"
	"slices"

	"confluence/api"
	"confluence/catalog"
	"confluence/files"
	"confluence/value"
	"confluence/wal"
)

// note is a write of a transaction: under which number, of which row; what it is since (nil: gone).
type note struct {
	by, table int
	key       string
	row       api.Row
}

// life is a transaction that is not over, as the model has it: what was committed when it began, and its own writes.
type life struct {
	xid, began int
	fold       map[int]map[string]api.Row
	notes      []note
	parents    map[int]int // of all parts that it has had
	back       map[int]bool
	points     []origin // savepoints: a name, and the number of the part
	name       string   // under which it waits; "": it is active
}

func (l *life) clone() *life {
	c := *l
	c.fold = cloneRows(l.fold)
	c.notes = slices.Clone(l.notes)
	c.parents = maps.Clone(l.parents)
	c.back = maps.Clone(l.back)
	c.points = slices.Clone(l.points)
	return &c
}

func cloneRows(m map[int]map[string]api.Row) map[int]map[string]api.Row {
	out := map[int]map[string]api.Row{}
	for table, rows := range m {
		out[table] = maps.Clone(rows)
	}
	return out
}

func (l *life) writer() int {
	if len(l.points) == 0 {
		return l.xid
	}
	return l.points[len(l.points)-1].lsn
}

// survives tells whether a number, and all around it, were not taken back.
func (l *life) survives(n int) bool {
	for n != l.xid {
		if l.back[n] {
			return false
		}
		n = l.parents[n]
	}
	return true
}

// last is its last surviving write of a row.
func (l *life) last(table int, key string) (note, bool) {
	for _, x := range slices.Backward(l.notes) {
		if x.table == table && x.key == key && l.survives(x.by) {
			return x, true
		}
	}
	return note{}, false
}

// wrote tells whether something that it wrote of a table survives.
func (l *life) wrote(table int) bool {
	return slices.ContainsFunc(l.notes, func(x note) bool { return x.table == table && l.survives(x.by) })
}

// state is all that the model knows but for the disk.
type state struct {
	tables        []api.Table
	next, nextTab int
	rows          map[int]map[string]api.Row // committed
	wrote         map[int]map[string]int     // by which commit, counted, a row was written last
	commits       int
	open          []*life // rising
	origins       map[string]int
}

func newState(next, nextTab int) *state {
	return &state{next: next, nextTab: nextTab, rows: map[int]map[string]api.Row{}, wrote: map[int]map[string]int{}, origins: map[string]int{}}
}

func (s *state) clone() *state {
	c := *s
	c.tables = slices.Clone(s.tables)
	for i := range c.tables {
		c.tables[i].Columns = slices.Clone(c.tables[i].Columns)
	}
	c.rows = cloneRows(s.rows)
	c.wrote = map[int]map[string]int{}
	for t, m := range s.wrote {
		c.wrote[t] = maps.Clone(m)
	}
	c.open = nil
	for _, l := range s.open {
		c.open = append(c.open, l.clone())
	}
	c.origins = maps.Clone(s.origins)
	return &c
}

func (s *state) table(name string) (int, bool) {
	at := slices.IndexFunc(s.tables, func(t api.Table) bool { return t.Name == name })
	return at, at >= 0
}

func (s *state) active(xid int) *life {
	for _, l := range s.open {
		if l.xid == xid && l.name == "" {
			return l
		}
	}
	return nil
}

func (s *state) waiting(name string) *life {
	for _, l := range s.open {
		if l.name == name && name != "" {
			return l
		}
	}
	return nil
}

// view is a row as somebody sees it (nil: whoever comes now), filled up; nil, if there is none.
func (s *state) view(l *life, t api.Table, key string) api.Row {
	row := s.rows[t.ID][key]
	if l != nil {
		row = l.fold[t.ID][key]
		if x, own := l.last(t.ID, key); own {
			row = x.row
		}
	}
	return widened(t, row)
}

func widened(t api.Table, row api.Row) api.Row {
	if row == nil {
		return nil
	}
	full := make(api.Row, len(t.Columns))
	copy(full, row)
	return full
}

// rival tells whether another one has written a row that this one does not see.
func (s *state) rival(l *life, table int, key string) bool {
	for _, o := range s.open {
		if _, wrote := o.last(table, key); o != l && wrote {
			return true
		}
	}
	return s.wrote[table][key] > l.began
}

// clean forgets all rows of a table, for everybody.
func (s *state) clean(table int) {
	delete(s.rows, table)
	delete(s.wrote, table)
	for _, l := range s.open {
		delete(l.fold, table)
		l.notes = slices.DeleteFunc(l.notes, func(x note) bool { return x.table == table })
	}
}

func (s *state) end(l *life, commit bool) {
	s.open = slices.DeleteFunc(s.open, func(o *life) bool { return o == l })
	if !commit {
		return
	}
	s.commits++
	for _, x := range l.notes {
		if !l.survives(x.by) {
			continue
		}
		if s.rows[x.table] == nil {
			s.rows[x.table], s.wrote[x.table] = map[string]api.Row{}, map[string]int{}
		}
		s.rows[x.table][x.key] = x.row
		s.wrote[x.table][x.key] = s.commits
		if x.row == nil {
			delete(s.rows[x.table], x.key)
		}
	}
}

// model does what the chapter says, word by word, with a disk of its own; of the layers below the store it has those that write.
type model struct {
	*state
	d      *files.Disk
	log    *wal.Log
	doubt  bool
	based  int
	base   *state
	behind map[int]*state // how all stood behind the record of a position
}

func (m *model) refusal() api.Errno {
	if m.d.Dead() {
		return api.ErrDead
	}
	return api.ErrStoreDoubt
}

// tries notes a doubt; false, if something was refused now or ahead of that.
func (m *model) tries(e api.Errno) bool {
	m.doubt = m.doubt || e != api.OK
	return !m.doubt
}

func (m *model) writes(r api.Rec) int {
	if m.doubt {
		return 0
	}
	at, e := m.log.Append(encoded(r))
	if m.tries(e) {
		m.behind[at] = m.state.clone()
	}
	return at
}

func (m *model) flushes() {
	if !m.doubt {
		m.tries(m.log.Flush())
	}
}

// does runs a call: what it says is told, unless there is doubt.
func (m *model) does(call func() (int, api.Errno)) (int, api.Errno) {
	if m.doubt {
		return 0, m.refusal()
	}
	n, e := call()
	if m.doubt {
		return 0, m.refusal()
	}
	if e != api.OK {
		return 0, e
	}
	return n, api.OK
}

func nameRight(s string) bool {
	for i, b := range []byte(s) {
		if b >= 'a' && b <= 'z' || i > 0 && (b >= '0' && b <= '9' || b == '_') {
			continue
		}
		return false
	}
	return len(s) >= 1 && len(s) <= 16
}

func (m *model) begin() (int, api.Errno) {
	if len(m.open) >= 32 {
		return 0, api.ErrStoreMany
	}
	if m.next > lastXid {
		return 0, api.ErrXactLast
	}
	x := m.next
	m.next++
	m.open = append(m.open, &life{xid: x, began: m.commits, fold: cloneRows(m.rows), parents: map[int]int{}, back: map[int]bool{}})
	m.writes(begins(x))
	return x, api.OK
}

// change is Insert, Update (by row) or Delete (by key).
func (m *model) change(kind, x int, name string, row api.Row, key api.Value) (int, api.Errno) {
	l := m.active(x)
	if l == nil {
		return 0, api.ErrStoreNone
	}
	at, is := m.table(name)
	if !is {
		return 0, api.ErrTableNone
	}
	t := m.tables[at]
	if kind == api.RecDelete {
		if value.Fits(key, t.Columns[t.Key]) != api.OK {
			return 0, api.ErrRowFit
		}
	} else {
		full, e := catalog.Fit(t, row)
		if e != api.OK {
			return 0, api.ErrRowFit
		}
		row, key = full, full[t.Key]
	}
	k := value.Print(key)
	old := m.view(l, t, k)
	switch {
	case m.rival(l, t.ID, k):
		return 0, api.ErrRowConflict
	case kind == api.RecInsert && old != nil:
		return 0, api.ErrRowThere
	case kind != api.RecInsert && old == nil:
		return 0, api.ErrRowNone
	}
	r := api.Rec{Kind: kind, Xid: l.writer(), Table: t.ID, Old: old, New: row}
	if kind == api.RecDelete {
		row, r.New = nil, nil
	}
	l.notes = append(l.notes, note{by: r.Xid, table: t.ID, key: k, row: row})
	m.writes(r)
	return 0, api.OK
}

// mayPart tells why a transaction can have no further part.
func (m *model) mayPart(l *life) api.Errno {
	switch {
	case len(l.parents) >= 64:
		return api.ErrXactMany
	case m.next > lastXid:
		return api.ErrXactLast
	}
	return api.OK
}

func (m *model) part(l *life, name string) {
	x, parent := m.next, l.writer()
	m.next++
	l.parents[x] = parent
	l.points = append(l.points, origin{name, x})
	m.writes(parts(x, parent))
}

func (m *model) savepoint(x int, name string) (int, api.Errno) {
	if !nameRight(name) {
		return 0, api.ErrArg
	}
	l := m.active(x)
	switch {
	case l == nil:
		return 0, api.ErrStoreNone
	case len(l.points) >= 16:
		return 0, api.ErrStoreDeep
	}
	if e := m.mayPart(l); e != api.OK {
		return 0, e
	}
	m.part(l, name)
	return 0, api.OK
}

func (m *model) endPoint(x int, name string, back bool) (int, api.Errno) {
	if !nameRight(name) {
		return 0, api.ErrArg
	}
	l := m.active(x)
	if l == nil {
		return 0, api.ErrStoreNone
	}
	at := -1
	for i, p := range l.points {
		if p.name == name {
			at = i
		}
	}
	if at < 0 {
		return 0, api.ErrStoreName
	}
	p := l.points[at].lsn
	if !back {
		l.points = l.points[:at]
		m.writes(releases(p))
		return 0, api.OK
	}
	if e := m.mayPart(l); e != api.OK {
		return 0, e
	}
	l.points = l.points[:at]
	l.back[p] = true
	m.writes(backs(p))
	m.part(l, name)
	return 0, api.OK
}

func (m *model) commitFrom(x int, name string, lsn int) (int, api.Errno) {
	if !(name == "" && lsn == 0) && (!nameRight(name) || lsn < 1 || lsn > lastPosition) {
		return 0, api.ErrArg
	}
	l := m.active(x)
	if l == nil {
		return 0, api.ErrStoreNone
	}
	return m.commit(l, name, lsn)
}

func (m *model) commit(l *life, name string, lsn int) (int, api.Errno) {
	m.end(l, true)
	if name != "" {
		m.origins[name] = lsn
	}
	at := m.writes(commitsFrom(l.xid, name, lsn))
	m.flushes()
	return at, api.OK
}

func (m *model) abort(x int) (int, api.Errno) {
	l := m.active(x)
	if l == nil {
		return 0, api.ErrStoreNone
	}
	m.end(l, false)
	m.writes(aborts(x))
	return 0, api.OK
}

func (m *model) prepare(x int, name string) (int, api.Errno) {
	if !nameRight(name) {
		return 0, api.ErrArg
	}
	l := m.active(x)
	switch {
	case l == nil:
		return 0, api.ErrStoreNone
	case m.waiting(name) != nil:
		return 0, api.ErrStoreThere
	}
	l.name, l.points = name, nil
	m.writes(prepares(x, name))
	m.flushes()
	return 0, api.OK
}

func (m *model) endPrepared(name string, commit bool) (int, api.Errno) {
	l := m.waiting(name)
	if l == nil {
		return 0, api.ErrStoreName
	}
	if commit {
		return m.commit(l, "", 0)
	}
	m.end(l, false)
	m.writes(aborts(l.xid))
	m.flushes()
	return 0, api.OK
}

// known is the catalog that the tables are, of which is asked what may be.
func (m *model) known() *catalog.Catalog {
	c, _ := catalog.Load(m.tables, m.nextTab)
	return c
}

func (m *model) create(name string, columns []api.Column, key int) (int, api.Errno) {
	t, e := m.known().Create(name, columns, key)
	if e != api.OK {
		return 0, e
	}
	if m.next > lastXid {
		return 0, api.ErrXactLast
	}
	m.tables = append(m.tables, t)
	m.nextTab++
	return m.alone(creates(m.next, t))
}

// alone logs a change of tables, whose number is the next one.
func (m *model) alone(r api.Rec) (int, api.Errno) {
	m.next++
	m.commits++
	at := m.writes(r)
	m.flushes()
	return at, api.OK
}

func (m *model) changeTable(kind int, name string, c api.Column) (int, api.Errno) {
	at, is := m.table(name)
	if !is {
		return 0, api.ErrTableNone
	}
	t := m.tables[at]
	wide, e := m.known().Widen(name, c)
	if kind == api.RecWiden && e != api.OK {
		return 0, e
	}
	for _, l := range m.open {
		if l.wrote(t.ID) {
			return 0, api.ErrStoreWritten
		}
	}
	if m.next > lastXid {
		return 0, api.ErrXactLast
	}
	switch kind {
	case api.RecWiden:
		m.tables[at] = wide
		return m.alone(widens(m.next, wide))
	case api.RecDrop:
		m.tables = slices.Delete(slices.Clone(m.tables), at, at+1)
	}
	m.clean(t.ID)
	return m.alone(api.Rec{Kind: kind, Xid: m.next, Table: t.ID})
}

// lines are all committed rows, as a base has them.
func (m *model) lines() []line {
	var l []line
	for _, t := range m.tables {
		for _, key := range m.keys(nil, t) {
			l = append(l, line{t.ID, m.view(nil, t, key)})
		}
	}
	return l
}

// keys are those of the rows that are seen, in their order.
func (m *model) keys(l *life, t api.Table) []string {
	all := map[string]api.Value{}
	add := func(key string) {
		if row := m.view(l, t, key); row != nil {
			all[key] = row[t.Key]
		}
	}
	for key := range m.rows[t.ID] {
		add(key)
	}
	if l != nil {
		for key := range l.fold[t.ID] {
			add(key)
		}
		for _, x := range l.notes {
			add(x.key)
		}
	}
	keys := slices.Collect(maps.Keys(all))
	slices.SortFunc(keys, func(a, b string) int {
		return cmp.Or(cmp.Compare(all[a].N, all[b].N), cmp.Compare(all[a].S, all[b].S))
	})
	return keys
}

func (m *model) checkpoint() (int, api.Errno) {
	if len(m.open) > 0 {
		return 0, api.ErrStoreBusy
	}
	if !m.tries(m.log.Flush()) {
		return 0, api.OK
	}
	position := m.log.End()
	check := checks(m.next, m.nextTab, m.tables...)
	var origins []origin
	for _, name := range slices.Sorted(maps.Keys(m.origins)) {
		origins = append(origins, origin{name, m.origins[name]})
	}
	b := baseOf(position, check, origins, m.lines())
	ok := true
	if slices.Contains(m.d.List(), "base.new") {
		ok = m.tries(m.d.Remove("base.new"))
	}
	ok = ok && m.tries(m.d.Create("base.new"))
	for _, page := range append([]string{b.head(), b.check}, b.tail...) {
		ok = ok && m.tries(m.d.Append("base.new", framed(page)))
	}
	ok = ok && m.tries(m.d.Sync("base.new"))
	ok = ok && m.tries(m.d.Rename("base.new", "base"))
	if !ok {
		return 0, api.OK
	}
	m.based, m.base = position, m.state.clone()
	at := m.writes(check)
	m.flushes()
	return at, api.OK
}

func (m *model) trim(lsn int) (int, api.Errno) {
	n, e := m.log.Trim(min(lsn, m.based))
	m.tries(e)
	return n, e
}

func (m *model) format() api.Errno {
	m.behind = map[int]*state{}
	m.state = newState(1, 1)
	m.doubt = false
	_, e := m.does(func() (int, api.Errno) {
		if !m.tries(wal.Create(m.d)) {
			return 0, api.OK
		}
		l, e := wal.Open(m.d)
		if !m.tries(e) {
			return 0, api.OK
		}
		m.log = l
		return m.checkpoint()
	})
	return e
}

// reopen is Open of a disk that has a right base: all stands as it stood behind the last record that the log has; what was active is aborted.
func (m *model) reopen() api.Errno {
	if m.d.Dead() {
		return api.ErrDead
	}
	l, e := wal.Open(m.d)
	if e != api.OK {
		return m.refusal()
	}
	m.log, m.doubt = l, false
	_, e = m.does(func() (int, api.Errno) {
		if slices.Contains(m.d.List(), "base.new") && !m.tries(m.d.Remove("base.new")) {
			return 0, api.OK
		}
		last := m.base
		for at := range l.Scan(0) {
			last = m.behind[at]
		}
		m.state = last.clone()
		for _, x := range slices.Clone(m.open) {
			if x.name == "" && !m.doubt {
				m.end(x, false)
				m.writes(aborts(x.xid))
			}
		}
		m.flushes()
		return 0, api.OK
	})
	return e
}
