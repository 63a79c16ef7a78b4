package decode_test

import (
	"fmt"
	"maps"
	"math/rand"
	"slices"
	"strings"
	"testing"

	"confluence/api"
	"confluence/decode"
	"confluence/files"
	"confluence/publish"
	"confluence/record"
	"confluence/reorder"
	"confluence/spill"
	"confluence/value"
	"confluence/wal"
)

// entry is a record of a log: its position, its bytes, the place that Read tells with it.
type entry struct {
	at      int
	payload string
	next    int
}

// node is a number that is used: what it belongs to (0: it is a transaction), and whether it was taken back.
type node struct {
	parent int
	back   bool
}

// noted is how a table was from a position on.
type noted struct {
	at, id int
	there  bool
	table  api.Table
}

// model reads a log by the words of D1 to D4. Which changes survive, and how tables were, it finds in plain lists; a buffer of its own, on another disk, tells what files and Counts say.
type model struct {
	t       *testing.T
	w       *wal.Log
	x       api.Slot
	d       *files.Disk
	buffer  *reorder.Buffer
	log     []entry // what lasts
	flushed int     // when it was looked at
	next    int     // of log
	place   int
	begins  []int
	wrong   api.Errno
	nodes   map[int]node
	changes []api.Change // of all that are open
	notes   []noted
}

// modelOf is a model of a log, from a checkpoint at a position on; its disk has as much room as the decoder's.
func modelOf(t *testing.T, w *wal.Log, x api.Slot, limit, room int) *model {
	t.Helper()
	d, _ := files.New(max(room, 1))
	s, e := spill.Open(d, x.Name)
	is(t, "spill.Open", e, api.OK)
	buffer, e := reorder.New(limit, s)
	is(t, "reorder.New", e, api.OK)
	m := &model{t: t, w: w, x: x, d: d, buffer: buffer, nodes: map[int]node{}, begins: []int{x.Restart}}
	m.look()
	if len(m.log) == 0 || m.log[0].at != x.Restart {
		t.Fatalf("no record begins at %d", x.Restart)
	}
	r, _ := record.Decode(m.log[m.next].payload)
	for _, tab := range r.Tabs {
		m.notes = append(m.notes, noted{x.Restart, tab.ID, true, tab})
	}
	m.place = m.log[m.next].next
	m.next++
	return m
}

// look finds what lasts of the log, from the record on with which it began; the last one that it knows is looked at again, as another one may stand behind it now.
func (m *model) look() {
	if m.flushed == m.w.Flushed() {
		return
	}
	m.flushed = m.w.Flushed()
	from := m.x.Restart
	if n := len(m.log) - 1; n >= 0 {
		from, m.log = m.log[n].at, m.log[:n]
	}
	for at, s := range m.w.Scan(from) {
		_, next, _ := m.w.Read(at)
		m.log = append(m.log, entry{at, s, next})
	}
}

func (m *model) step() answer {
	m.look()
	if m.wrong != api.OK {
		return answer{nil, m.wrong}
	}
	if m.next == len(m.log) {
		return answer{nil, api.ErrDecodeEnd}
	}
	r := m.log[m.next]
	a := answer{nil, api.ErrDecodeLog}
	if rec, e := record.Decode(r.payload); e == api.OK {
		a = m.take(rec, r.at, r.at+7+len(r.payload))
	}
	if m.wrong = a.e; a.e != api.OK {
		return answer{nil, a.e}
	}
	m.place = r.next
	m.next++
	return a
}

// known tells whether a number is.
func (m *model) known(xid int) bool {
	n, used := m.nodes[xid]
	return used && !n.back
}

// isOpen tells whether a number is that of a transaction that is open.
func (m *model) isOpen(xid int) bool {
	n, used := m.nodes[xid]
	return used && n.parent == 0
}

// within tells whether a number is another one, or within it.
func (m *model) within(xid, other int) bool {
	for xid != 0 && xid != other {
		xid = m.nodes[xid].parent
	}
	return xid == other
}

// over forgets a transaction; its changes that survived.
func (m *model) over(xid int) []api.Change {
	var survived, others []api.Change
	for _, c := range m.changes {
		switch {
		case !m.within(c.Xid, xid):
			others = append(others, c)
		case m.known(c.Xid):
			survived = append(survived, c)
		}
	}
	m.changes = others
	gone := slices.DeleteFunc(slices.Collect(maps.Keys(m.nodes)), func(n int) bool { return !m.within(n, xid) })
	for _, n := range gone {
		delete(m.nodes, n)
	}
	return survived
}

// refused holds what the buffer answers against whether the record can be taken; what its files answer is told.
func (m *model) refused(can bool, e api.Errno) api.Errno {
	m.t.Helper()
	switch e {
	case api.ErrDead, api.ErrFileFull, api.ErrSpillNone, api.ErrSpillForm:
		return e
	}
	if can != (e == api.OK) {
		m.t.Fatalf("layer 16 answers %d, but it can be: %v", e, can)
	}
	if !can {
		return api.ErrDecodeLog
	}
	return api.OK
}

// was is a table as it was at a position.
func (m *model) was(at, id int) (api.Table, bool) {
	for _, n := range slices.Backward(m.notes) {
		if n.id == id && n.at <= at {
			return n.table, n.there
		}
	}
	return api.Table{}, false
}

func (m *model) take(r api.Rec, at, end int) answer {
	_, used := m.nodes[r.Xid]
	var e api.Errno
	switch r.Kind {
	case api.RecBegin:
		if e = m.refused(!used, m.buffer.Begin(r.Xid, at)); e == api.OK {
			m.nodes[r.Xid] = node{}
		}
	case api.RecPart:
		if e = m.refused(!used && m.known(r.Parent), m.buffer.Part(r.Xid, r.Parent, at)); e == api.OK {
			m.nodes[r.Xid] = node{parent: r.Parent}
		}
	case api.RecInsert, api.RecUpdate, api.RecDelete:
		c := api.Change{Lsn: at, Xid: r.Xid, Kind: r.Kind, Table: r.Table, Old: r.Old, New: r.New}
		if e = m.refused(m.known(r.Xid), m.buffer.Add(c)); e == api.OK {
			m.changes = append(m.changes, c)
		}
	case api.RecBack:
		if e = m.refused(m.known(r.Xid) && !m.isOpen(r.Xid), m.buffer.Back(r.Xid)); e == api.OK {
			for xid, n := range m.nodes {
				n.back = n.back || m.within(xid, r.Xid)
				m.nodes[xid] = n
			}
		}
	case api.RecAbort:
		e = m.abort(r.Xid)
	case api.RecCommit:
		if end <= m.x.Confirmed {
			return answer{nil, m.abort(r.Xid)}
		}
		return m.commit(r.Xid, at, end)
	case api.RecCreate, api.RecWiden:
		m.notes = append(m.notes, noted{at, r.Tab.ID, true, r.Tab})
	case api.RecDrop:
		if _, there := m.was(at, r.Table); !there {
			return answer{nil, api.ErrDecodeLog}
		}
		m.notes = append(m.notes, noted{at: at, id: r.Table})
	case api.RecEmpty:
		if end > m.x.Confirmed {
			return m.tell(r.Xid, at, end, []api.Change{{Lsn: at, Xid: r.Xid, Kind: r.Kind, Table: r.Table}}, nil)
		}
	case api.RecCheckpoint:
		if len(m.nodes) == 0 {
			m.begins = append(m.begins, at)
		}
	}
	return answer{nil, e}
}

func (m *model) abort(xid int) api.Errno {
	e := m.refused(m.isOpen(xid), m.buffer.Abort(xid))
	if e == api.OK {
		m.over(xid)
	}
	return e
}

func (m *model) commit(xid, at, end int) answer {
	can := m.isOpen(xid)
	s, e := m.buffer.Commit(xid)
	if e := m.refused(can, e); e != api.OK {
		return answer{nil, e}
	}
	return m.tell(xid, at, end, m.over(xid), s)
}

// tell tells changes, each of which a stream must tell, too, if there is one.
func (m *model) tell(xid, at, end int, l []api.Change, s *reorder.Stream) answer {
	p, _ := publish.New(m.x.Publication)
	is(m.t, "publish.Begin", p.Begin(xid, at), api.OK)
	var told []string
	for _, c := range l {
		if e := m.streams(s, c); e != api.OK {
			return answer{nil, e}
		}
		t, there := m.was(c.Lsn, c.Table)
		if !there {
			return answer{nil, api.ErrDecodeLog}
		}
		messages, e := p.Change(t, c)
		if e != api.OK {
			return answer{nil, api.ErrDecodeLog}
		}
		told = append(told, messages...)
	}
	if s != nil {
		if c, is, e := s.Next(); is || e != api.OK {
			if is {
				m.t.Fatalf("layer 16 tells %+v", c)
			}
			return answer{nil, e}
		}
	}
	last, e := p.Commit(end)
	is(m.t, "publish.Commit", e, api.OK)
	return answer{append(told, last...), api.OK}
}

// streams takes a change off a stream.
func (m *model) streams(s *reorder.Stream, want api.Change) api.Errno {
	if s == nil {
		return api.OK
	}
	c, is, e := s.Next()
	if e != api.OK {
		return e
	}
	if !is || c.Lsn != want.Lsn || c.Xid != want.Xid || c.Kind != want.Kind || c.Table != want.Table || !value.Same(c.Old, want.Old) || !value.Same(c.New, want.New) {
		m.t.Fatalf("layer 16 tells %+v, want %+v", c, want)
	}
	return api.OK
}

func (m *model) restart(confirmed int) int {
	at := m.begins[0]
	for _, n := range m.begins {
		if n <= confirmed {
			at = n
		}
	}
	return at
}

// ahead is what so many steps answer, as one.
func (m *model) ahead(n int) answer {
	var told []string
	for i := range n {
		a := m.step()
		if a.e != api.OK && i == 0 {
			return a
		}
		if a.e != api.OK {
			break
		}
		told = append(told, a.told...)
	}
	return answer{told, api.OK}
}

// holds holds all that a decoder says of itself against the model.
func (m *model) holds(x *decode.Decoder) {
	m.t.Helper()
	if x.Position() != m.place || x.Counts() != m.buffer.Counts() {
		m.t.Fatalf("Position %d, Counts %+v, want %d, %+v", x.Position(), x.Counts(), m.place, m.buffer.Counts())
	}
	tries := []int{-1, 0, m.w.End(), m.w.End() + 1}
	for _, at := range m.begins {
		tries = append(tries, at-1, at, at+1)
	}
	for _, n := range tries {
		if x.Restart(n) != m.restart(n) {
			m.t.Fatalf("Restart(%d): %d, want %d", n, x.Restart(n), m.restart(n))
		}
	}
}

// writer writes a random log, most of which is right.
type writer struct {
	*bench
	r      *rand.Rand
	wrongs int // of 1000 records
	xid    int
	id     int
	nodes  map[int]int // what each known number belongs to; 0: a transaction
	tables map[int]api.Table
	from   int // where its first checkpoint stands
}

func writerOf(t *testing.T, r *rand.Rand, wrongs int) *writer {
	t.Helper()
	w := &writer{bench: begun(t), r: r, wrongs: wrongs, nodes: map[int]int{}, tables: map[int]api.Table{}}
	// The first segment ends soon.
	w.fill(r.Intn(1500))
	w.from = w.put(w.checkpoint())[0]
	return w
}

func (w *writer) checkpoint() api.Rec {
	var l []api.Table
	for _, id := range slices.Sorted(maps.Keys(w.tables)) {
		l = append(l, w.tables[id])
	}
	return api.Rec{Kind: api.RecCheckpoint, Xid: w.xid + 1, Table: w.id + 1, Tabs: l}
}

// some is one of the numbers that are known, of transactions alone, of parts alone, or of both; 0: there is none.
func (w *writer) some(transactions, parts bool) int {
	var l []int
	for _, xid := range slices.Sorted(maps.Keys(w.nodes)) {
		if transactions && w.nodes[xid] == 0 || parts && w.nodes[xid] != 0 {
			l = append(l, xid)
		}
	}
	if len(l) == 0 {
		return 0
	}
	return l[w.r.Intn(len(l))]
}

func (w *writer) within(xid, other int) bool {
	for xid != 0 && xid != other {
		xid = w.nodes[xid]
	}
	return xid == other
}

// forget forgets a number and all within it.
func (w *writer) forget(xid int) {
	gone := slices.DeleteFunc(slices.Collect(maps.Keys(w.nodes)), func(n int) bool { return !w.within(n, xid) })
	for _, n := range gone {
		delete(w.nodes, n)
	}
}

func (w *writer) number(parent int) int {
	w.xid++
	w.nodes[w.xid] = parent
	return w.xid
}

// fresh is a number that nobody keeps, for a record that is a transaction of its own.
func (w *writer) fresh() int {
	w.xid++
	return w.xid
}

func (w *writer) someTable() (api.Table, bool) {
	l := slices.Sorted(maps.Keys(w.tables))
	if len(l) == 0 {
		return api.Table{}, false
	}
	return w.tables[l[w.r.Intn(len(l))]], true
}

// row is one of a table; some are long, so that segments end soon.
func (w *writer) row(t api.Table) api.Row {
	var r api.Row
	for _, c := range t.Columns {
		v := api.Value{Kind: c.Kind, N: w.r.Intn(9)}
		if c.Kind == api.Text {
			v = api.Value{Kind: c.Kind, S: strings.Repeat("x", w.r.Intn(5))}
			if w.r.Intn(3) == 0 {
				v.S = strings.Repeat("y", w.r.Intn(201))
			}
		}
		if c.Null && w.r.Intn(5) == 0 {
			v = api.Value{}
		}
		r = append(r, v)
	}
	return r
}

func (w *writer) change(xid int) api.Rec {
	t, there := w.someTable()
	if !there {
		return prepare(xid, "w")
	}
	r := api.Rec{Kind: api.RecInsert + w.r.Intn(3), Xid: xid, Table: t.ID}
	if r.Kind != api.RecInsert {
		r.Old = w.row(t)
	}
	if r.Kind != api.RecDelete {
		r.New = w.row(t)
	}
	if r.Kind == api.RecUpdate {
		r.New[t.Key] = r.Old[t.Key]
	}
	return r
}

func (w *writer) create() api.Rec {
	w.id++
	name := []string{"t", "u", "v", "other"}[w.r.Intn(4)]
	t := api.Table{ID: w.id, Version: 1, Name: name, Columns: []api.Column{{Name: "n1", Kind: api.Int, Null: true}, {Name: "id", Kind: api.Int + w.r.Intn(2)}}, Key: 1}
	// A checkpoint tells no name twice, and not more than 16.
	for _, other := range w.tables {
		if other.Name == name {
			delete(w.tables, other.ID)
			w.put(drop(w.fresh(), other.ID))
			break
		}
	}
	w.tables[t.ID] = t
	return create(w.fresh(), t)
}

func (w *writer) reshape() api.Rec {
	t, there := w.someTable()
	switch n := w.r.Intn(4); {
	case !there || n == 0:
		return w.create()
	case n == 1:
		delete(w.tables, t.ID)
		return drop(w.fresh(), t.ID)
	case n == 2 && len(t.Columns) < api.MaxColumns:
		t.Version++
		t.Columns = append(slices.Clone(t.Columns), api.Column{Name: fmt.Sprint("s", len(t.Columns)), Kind: api.Text, Null: true})
		w.tables[t.ID] = t
		return widen(w.fresh(), t)
	}
	return empty(w.fresh(), t.ID)
}

// right is a record that can be taken.
func (w *writer) right() api.Rec {
	any, n := w.some(true, true), w.r.Intn(100)
	switch {
	case n < 8 || any == 0 && n < 60:
		return begin(w.number(0))
	case n < 16 && any != 0:
		parent := any
		return part(w.number(parent), parent)
	case n < 65 && any != 0:
		return w.change(any)
	case n < 70 && w.some(false, true) != 0:
		xid := w.some(false, true)
		w.forget(xid)
		return back(xid)
	case n < 73 && w.some(false, true) != 0:
		return release(w.some(false, true))
	case n < 75 && any != 0:
		return prepare(any, "w")
	case n < 85 && any != 0:
		xid := w.some(true, false)
		w.forget(xid)
		if n < 78 {
			return abort(xid)
		}
		return api.Rec{Kind: api.RecCommit, Xid: xid, Name: "o", Origin: 1 + w.r.Intn(100000)}
	case n < 92:
		return w.reshape()
	}
	return w.checkpoint()
}

// wrong is a record that may be taken or not, and may be told or not.
func (w *writer) wrong() api.Rec {
	xid, id := 1+w.r.Intn(w.xid+2), 1+w.r.Intn(w.id+2)
	t, _ := w.someTable()
	rows := []api.Row{row(1), row(1, 2), {{Kind: api.Int, N: 1}, {Kind: api.Text, S: "a"}}, {{}, {}}, w.row(t), row(1, 2, 3)}
	if len(t.Columns) == 0 {
		rows = rows[:4]
	}
	from, to := rows[w.r.Intn(len(rows))], rows[w.r.Intn(len(rows))]
	switch w.r.Intn(12) {
	case 0:
		return begin(xid)
	case 1:
		return part(xid+1, 1+w.r.Intn(xid))
	case 2:
		return api.Rec{Kind: api.RecInsert, Xid: xid, Table: id, New: to}
	case 3:
		return update(xid, id, from, to)
	case 4:
		return api.Rec{Kind: api.RecDelete, Xid: xid, Table: id, Old: from}
	case 5:
		return back(xid)
	case 6:
		return commit(xid)
	case 7:
		return abort(xid)
	case 8:
		return drop(xid, id)
	case 9:
		return empty(xid, id)
	case 10:
		return create(xid, table(id, "t", 1+w.r.Intn(3)))
	}
	return checkpoint()
}

// write appends a record, right or wrong, or bytes that are none.
func (w *writer) write() {
	switch n := w.r.Intn(1000); {
	case n >= w.wrongs:
		w.put(w.right())
	case n%10 == 0:
		w.raw("no record")
	default:
		w.put(w.wrong())
	}
}

// picky is a publication that leaves some out.
func picky() api.Publication {
	return api.Publication{Name: "p", Tables: []api.Published{{Table: "t", Kinds: 15}, {Table: "u", Kinds: 7, Columns: []string{"n1", "s3"}, Filter: "n1 > 3"}, {Table: "v", Kinds: 9, Columns: []string{"s2"}}}}
}

// TestModel: random logs, right ones and wrong ones, read while they grow, by Step and by Ahead, with each limit: all that is answered and said is held against the words.
func TestModel(t *testing.T) {
	came := map[api.Errno]int{}
	told, turned := 0, 0
	for seed := range int64(300) {
		r := rand.New(rand.NewSource(seed))
		w := writerOf(t, r, []int{0, 5, 30}[seed%3])
		w.flush()
		x := slotAt([]int{0, w.from + r.Intn(3000)}[r.Intn(2)], w.from)
		if r.Intn(3) > 0 {
			x.Publication = picky()
		}
		limit := []int{0, 1, 40, 100, 500, 3000, never}[r.Intn(7)]
		d := w.opens(x, limit)
		m := modelOf(t, w.w, x, limit, w.d.Free())
		m.holds(d)
		for range 40 + r.Intn(80) {
			w.write()
			if r.Intn(4) > 0 {
				continue
			}
			if r.Intn(3) > 0 {
				w.flush()
			}
			for range 1 + r.Intn(6) {
				var got, want answer
				if n := r.Intn(5); n == 0 {
					l, e := d.Step()
					got, want = answer{l, e}, m.step()
				} else {
					l, e := d.Ahead(n)
					got, want = answer{l, e}, m.ahead(n)
				}
				if !same(got, want) {
					t.Fatalf("seed %d, limit %d, at %d: %s, want %s", seed, limit, m.place, got, want)
				}
				m.holds(d)
				if d.Counts().Open == 0 {
					w.clean()
				}
				came[got.e]++
				told += len(got.told)
			}
		}
		turned += w.w.End() / first
	}
	if came[api.OK] < 1000 || came[api.ErrDecodeEnd] < 1000 || came[api.ErrDecodeLog] < 100 || told < 1000 || turned < 500 {
		t.Errorf("too little came: %v, %d messages, %d segments", came, told, turned)
	}
}
