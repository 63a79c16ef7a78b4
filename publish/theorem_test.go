package publish_test

import (
	"maps"
	"math/rand"
	"slices"
	"testing"

	"confluence/api"
	"confluence/expr"
	"confluence/publish"
	"confluence/value"
)

func TestExamples(t *testing.T) {
	for want, m := range map[string]api.Message{"\x01\x02\x88\x40": {Kind: api.MsgBegin, Xid: 2, Lsn: 8200}, "\x06\x03": {Kind: api.MsgEmpty, Table: 3}} {
		if s, e := publish.Encode(m); s != want || e != api.OK {
			t.Errorf("Encode(%+v) = %x, %d, want %x", m, s, e, want)
		}
	}
	if s, e := publish.Encode(api.Message{Kind: api.MsgBegin}); s != "" || e != api.ErrPublishMessage {
		t.Errorf("Encode of MsgBegin {Xid 0} = %x, %d", s, e)
	}
	p := only(15, "id > 1", "name")
	view := cut(thing(), 0, 0, 1)
	views(t, "example 2", p, thing(), view)
	x := made(t, p)
	x.begin()
	x.tells("an update", thing(), updated(row(2, "a"), row(2, "b")), msgBegin(), msgTable(view), msgUpdate(row(2, "a")[:2], row(2, "b")[:2]))
	x.tells("an insert", thing(), inserted(row(1, "x")))
	x.commits(9001, msgCommit(9001))
}

func someText(source *rand.Rand, most int) string {
	s := make([]byte, source.Intn(most+1))
	source.Read(s)
	return string(s)
}

func someValues(source *rand.Rand) api.Row {
	r := make(api.Row, 1+source.Intn(8))
	for i := range r {
		r[i] = pick(source, null, no, yes, number(int(source.Uint64())>>source.Intn(64)), text(someText(source, 3)), text(someText(source, 200)))
	}
	return r
}

func someShape(source *rand.Rand) api.Table {
	n := func() int { return pick(source, 1, 2, 127, 128, last, 1+source.Intn(last)) }
	t := api.Table{ID: n(), Version: n(), Name: pick(source, names...)}
	l := slices.Clone(names)
	source.Shuffle(len(l), func(i, k int) { l[i], l[k] = l[k], l[i] })
	for i := range 1 + source.Intn(8) {
		t.Columns = append(t.Columns, api.Column{Name: l[i], Kind: 1 + source.Intn(3), Null: source.Intn(2) == 0})
	}
	t.Key = source.Intn(len(t.Columns))
	t.Columns[t.Key].Kind, t.Columns[t.Key].Null = 1+source.Intn(2), false
	return t
}

// someMessage is a right one.
func someMessage(source *rand.Rand) api.Message {
	m := api.Message{Kind: 1 + source.Intn(9)}
	for _, field := range fieldsOf[m.Kind] {
		switch field {
		case "Xid":
			m.Xid = pick(source, 1, 127, 128, last, 1+source.Intn(last))
		case "Table":
			m.Table = pick(source, 1, 127, 128, last, 1+source.Intn(last))
		case "Lsn":
			m.Lsn = pick(source, 1, 8192, top-1, 1+source.Intn(top-1))
		case "End":
			m.End = pick(source, m.Lsn+1, top, m.Lsn+1+source.Intn(top-m.Lsn))
		case "Tab":
			m.Tab = someShape(source)
		case "Old":
			m.Old = someValues(source)
		case "New":
			m.New = someValues(source)
		}
	}
	return m
}

// spoilt are bytes of which some were turned, put in or taken away.
func spoilt(source *rand.Rand, text string) string {
	s := []byte(text)
	for range 1 + source.Intn(2) {
		at := source.Intn(min(len(s), pick(source, 8, 40, 5000)))
		switch source.Intn(4) {
		case 0:
			s[at] = byte(source.Intn(256))
		case 1:
			s[at] += pick(source, byte(1), 255, 128)
		case 2:
			s = slices.Insert(s, at, byte(source.Intn(256)))
		case 3:
			if len(s) > 1 {
				s = slices.Delete(s, at, at+1)
			}
		}
	}
	return string(s)
}

func TestU7MessagesBackAgain(t *testing.T) {
	source := rand.New(rand.NewSource(181))
	right := 0
	for range 30000 {
		m := someMessage(source)
		taken(t, "a message", m)
		if byRule(t, spoilt(source, laidByRule(m))) {
			right++
		}
	}
	if right < 3000 {
		t.Errorf("only %d that were spoilt are messages", right)
	}
}

// someAll is any right publication.
func someAll(source *rand.Rand) api.Publication {
	p := api.Publication{Name: pick(source, names...)}
	l := slices.Clone(names)
	for i := range pick(source, 1, 1, 2, 3, 8) {
		source.Shuffle(len(l)-i, func(a, b int) { l[i+a], l[i+b] = l[i+b], l[i+a] })
		x := api.Published{Table: l[i], Kinds: 1 + source.Intn(15), Filter: pick(source, slices.Concat(someFilters, rightFilters)...)}
		c := slices.Clone(names)
		source.Shuffle(len(c), func(a, b int) { c[a], c[b] = c[b], c[a] })
		x.Columns = c[:source.Intn(9)]
		p.Tables = append(p.Tables, x)
	}
	return p
}

func TestU7PublicationsBackAgain(t *testing.T) {
	source := rand.New(rand.NewSource(182))
	right := 0
	for range 10000 {
		p := someAll(source)
		publicationRight(t, p)
		if publicationBytes(t, spoilt(source, publicationLaid(p))) {
			right++
		}
	}
	if right < 300 {
		t.Errorf("only %d that were spoilt are publications", right)
	}
}

// heap has rows by their keys.
type heap map[api.Value]api.Row

func sameHeap(a, b heap) bool {
	return maps.EqualFunc(a, b, func(x, y api.Row) bool { return slices.Equal(x, y) })
}

// follower does what is told, and nothing else; it holds the order of messages.
type follower struct {
	t      *testing.T
	rows   map[int]heap
	inside bool
	views  map[int]api.Table
	begun  api.Message
}

func (f *follower) take(m api.Message) {
	f.t.Helper()
	if f.inside == (m.Kind == api.MsgBegin) {
		f.t.Fatalf("%+v at a wrong place", m)
	}
	view, known := f.views[m.Table]
	if h := f.rows[m.Table]; m.Kind >= api.MsgInsert && m.Kind <= api.MsgEmpty && (!known || h == nil) {
		f.t.Fatalf("%+v ahead of its table", m)
	}
	for _, r := range []api.Row{m.Old, m.New} {
		if len(r) > 0 && len(r) != len(view.Columns) {
			f.t.Fatalf("%+v is not of the columns of %+v", m, view)
		}
	}
	h := f.rows[m.Table]
	switch m.Kind {
	case api.MsgBegin:
		f.inside, f.begun, f.views = true, m, map[int]api.Table{}
	case api.MsgTable:
		f.views[m.Tab.ID] = m.Tab
		if f.rows[m.Tab.ID] == nil {
			f.rows[m.Tab.ID] = heap{}
		}
	case api.MsgInsert:
		if _, is := h[m.New[view.Key]]; is {
			f.t.Fatalf("%+v is there", m)
		}
		h[m.New[view.Key]] = m.New
	case api.MsgUpdate, api.MsgDelete:
		if !value.Same(h[m.Old[view.Key]], m.Old) {
			f.t.Fatalf("%+v: there is %+v", m, h[m.Old[view.Key]])
		}
		delete(h, m.Old[view.Key])
		if m.Kind == api.MsgUpdate {
			h[m.New[view.Key]] = m.New
		}
	case api.MsgEmpty:
		clear(h)
	case api.MsgCommit:
		f.inside = false
		if m.Xid != f.begun.Xid || m.Lsn != f.begun.Lsn {
			f.t.Fatalf("%+v of %+v", m, f.begun)
		}
	}
}

// holder has tables and their rows, and makes random changes of them.
type holder struct {
	source *rand.Rand
	tables []api.Table
	rows   map[int]heap
}

func (h *holder) change() (api.Table, api.Change) {
	t := pick(h.source, h.tables...)
	c := api.Change{Table: t.ID}
	rows := h.rows[t.ID]
	r := h.row(t)
	old, there := rows[r[t.Key]]
	switch {
	case h.source.Intn(25) == 0:
		c.Kind = api.RecEmpty
		clear(rows)
	case !there:
		c.Kind, c.New = api.RecInsert, r
		rows[r[t.Key]] = r
	case h.source.Intn(3) == 0:
		c.Kind, c.Old = api.RecDelete, old
		delete(rows, r[t.Key])
	default:
		c.Kind, c.Old, c.New = api.RecUpdate, old, r
		rows[r[t.Key]] = r
	}
	return t, c
}

// row is always one that fits the table.
func (h *holder) row(t api.Table) api.Row {
	var r api.Row
	for _, c := range t.Columns {
		v := []api.Value{null, number(h.source.Intn(5)), text(pick(h.source, "a", "b", "c", full)), {Kind: api.Bool, N: h.source.Intn(2)}}[c.Kind]
		if c.Null && h.source.Intn(4) == 0 {
			v = null
		}
		r = append(r, v)
	}
	return r
}

// wanted has the view's columns of the rows of a table that fit its filter.
func (h *holder) wanted(p api.Publication, t api.Table) (heap, bool) {
	v, is := publish.View(p, t)
	if !is {
		return nil, false
	}
	m := &model{p: p}
	out := heap{}
	for key, r := range h.rows[t.ID] {
		if m.fits(t, r) {
			out[key] = shown(t, v, r)
		}
	}
	return out, true
}

// TestU7WhoeverFollows: with all kinds, whoever does what is told has what the publication wants, behind each transaction.
func TestU7WhoeverFollows(t *testing.T) {
	whole, nothing := 0, 0
	for seed := range 600 {
		source := rand.New(rand.NewSource(int64(seed)))
		p := somePublication(source)
		for i := range p.Tables {
			p.Tables[i].Kinds = 15
		}
		h := &holder{source: source, rows: map[int]heap{}}
		f := &follower{t: t, rows: map[int]heap{}}
		for id := 1; id <= 3; id++ {
			x := changed(func(x *api.Table) { x.ID, x.Name = id, []string{"t", "u", "v"}[id-1] })
			if source.Intn(3) == 0 {
				x.Columns[0], x.Columns[1], x.Key = x.Columns[1], x.Columns[0], 1
			}
			if source.Intn(3) == 0 {
				x.Columns = append(x.Columns, api.Column{Name: "more", Kind: api.Int, Null: true})
			}
			h.tables = append(h.tables, x)
			h.rows[id] = heap{}
		}
		x, _ := publish.New(p)
		for lsn := 9000; lsn < 9020; lsn++ {
			l := tellOne(t, x, h, lsn)
			if len(l) == 0 {
				nothing++
			} else {
				whole++
			}
			if n := len(l); n > 0 && (l[0].Kind != api.MsgBegin || l[n-1].Kind != api.MsgCommit || n < 4) {
				t.Fatalf("what is told of a transaction: %+v", l)
			}
			for _, m := range l {
				f.take(m)
			}
			if f.inside {
				t.Fatalf("it does not end: %+v", l)
			}
			for _, y := range h.tables {
				if want, is := h.wanted(p, y); !sameHeap(f.rows[y.ID], want) {
					t.Fatalf("of %+v, %v: %+v, want %+v", y, is, f.rows[y.ID], want)
				}
			}
		}
	}
	if whole < 1000 || nothing < 1000 {
		t.Errorf("something was told of %d transactions, nothing of %d", whole, nothing)
	}
}

// tellOne is all that is told of a random transaction.
func tellOne(t *testing.T, x *publish.Publisher, h *holder, lsn int) []api.Message {
	t.Helper()
	var l []string
	if e := x.Begin(lsn-8999, lsn); e != api.OK {
		t.Fatalf("Begin: %d", e)
	}
	for range h.source.Intn(6) {
		y, c := h.change()
		more, e := x.Change(y, c)
		if e != api.OK {
			t.Fatalf("Change(%+v, %+v): %d", y, c, e)
		}
		l = append(l, more...)
	}
	more, e := x.Commit(lsn + 1)
	if e != api.OK {
		t.Fatalf("Commit: %d", e)
	}
	return read(t, append(l, more...))
}

// TestFiltersOfTheTests: those that the random scripts have are what they are meant to be.
func TestFiltersOfTheTests(t *testing.T) {
	for _, s := range slices.Concat(someFilters, rightFilters) {
		if _, why, _ := expr.Parse(s); s != "" && why != api.OK {
			t.Errorf("%q: %d", s, why)
		}
	}
}
