package apply_test

import (
	"fmt"
	"math/rand"
	"slices"
	"testing"

	"confluence/api"
	"confluence/apply"
	"confluence/files"
	"confluence/publish"
	"confluence/store"
)

type gen struct{ *rand.Rand }

func seeded(n int) gen { return gen{rand.New(rand.NewSource(int64(n)))} }

func pick[T any](g gen, l ...T) T { return l[g.Intn(len(l))] }

// once tells true, once in n times.
func (g gen) once(n int) bool { return g.Intn(n) == 0 }

// shape is what a local table may be: its columns, and the key's place.
type shape struct {
	columns []string
	key     int
}

func shapes() []shape {
	return []shape{
		{[]string{"id i", "name t?", "more t?"}, 0},
		{[]string{"id i", "name t?"}, 0},
		{[]string{"more t?", "name t?", "id i", "n i?"}, 2},
		{[]string{"id i", "n i", "flag b?"}, 0},
		{[]string{"id t", "n i?", "flag b?"}, 0},
		{[]string{"name t", "id i?"}, 0},
		{[]string{"id i", "name t?", "n i?", "flag b"}, 0},
	}
}

// pair is a store with appliers, and its twin, on which words stand.
type pair struct {
	t        *testing.T
	g        gen
	a, b     *files.Disk
	s, twin  *store.Store
	appliers []*apply.Applier
	words    []*words
	sessions []int // numbers of transactions that are not the appliers'
	crowd    bool  // do sessions begin more than they end?
	over     bool
	came     map[string]int
}

func newPair(t *testing.T, g gen, capacity int, came map[string]int) *pair {
	t.Helper()
	p := &pair{t: t, g: g, a: formatted(t, capacity), b: formatted(t, capacity), crowd: g.once(10), came: came}
	p.open()
	for _, name := range []string{"t", "u"} {
		p.creates(name, shapes()[g.Intn(3)])
	}
	return p
}

// open opens both stores anew, with an applier or two, sometimes of one origin.
func (p *pair) open() {
	p.t.Helper()
	var e, f api.Errno
	p.s, e = store.Open(p.a)
	p.twin, f = store.Open(p.b)
	p.same("Open", e, f)
	if e != api.OK {
		p.over = true // no room is left for what it must log
		return
	}
	p.appliers, p.words, p.sessions = nil, nil, nil
	for range pick(p.g, 1, 2, 2) {
		origin := pick(p.g, "pub", "pub", "other")
		p.appliers = append(p.appliers, applier(p.t, p.s, origin))
		p.words = append(p.words, &words{d: p.b, s: p.twin, origin: origin})
	}
}

func (p *pair) same(what string, got, want any) {
	p.t.Helper()
	if got != want {
		p.t.Fatalf("%s: %v, want %v", what, got, want)
	}
}

// both asks something of both stores that they must answer alike.
func (p *pair) both(what string, ask func(*files.Disk, *store.Store) string) string {
	p.t.Helper()
	got := ask(p.a, p.s)
	p.same(what, got, ask(p.b, p.twin))
	return got
}

func (p *pair) creates(name string, x shape) {
	p.both("CreateTable", func(_ *files.Disk, s *store.Store) string {
		return fmt.Sprint(s.CreateTable(name, columns(x.columns...), x.key))
	})
}

// value is one of a kind, of few, or now and then of any.
func (g gen) value(kind int, null bool) api.Value {
	if null && g.once(5) {
		return v(nil)
	}
	switch kind {
	case api.Int:
		return v(g.Intn(4))
	case api.Text:
		return v(pick(g, "a", "b", "c"))
	}
	return v(g.once(2))
}

// table is one that is told: most often of columns of a local one.
func (g gen) table(local []api.Table) api.Table {
	id := pick(g, 1, 2, 3, 9)
	if len(local) == 0 || g.once(40) {
		return told(id, pick(g, "t", "u", "none"), "id i", "name t?")
	}
	t := pick(g, local...)
	t.ID, t.Version = id, 1+g.Intn(3)
	key := t.Columns[t.Key]
	all := slices.Clone(t.Columns)
	t.Columns = nil
	for _, c := range all {
		if c == key || !c.Null && !g.once(30) || g.Intn(3) > 0 {
			t.Columns = append(t.Columns, c)
		}
	}
	g.Shuffle(len(t.Columns), func(i, j int) { t.Columns[i], t.Columns[j] = t.Columns[j], t.Columns[i] })
	t.Key = slices.Index(t.Columns, key)
	if g.once(40) {
		c := &t.Columns[g.Intn(len(t.Columns))]
		*c = api.Column{Name: pick(g, c.Name, "none"), Kind: pick(g, api.Int, api.Text), Null: false}
		if g.once(4) {
			t.Key = g.Intn(len(t.Columns))
		}
	}
	if _, e := publish.Encode(head(t)); e != api.OK {
		return g.table(local)
	}
	return t
}

// row is one of a table that was told: most often one that fits.
func (g gen) row(t api.Table) api.Row {
	var out api.Row
	for i, c := range t.Columns {
		kind := c.Kind
		if g.once(150) {
			kind = 1 + g.Intn(3)
		}
		out = append(out, g.value(kind, (c.Null || g.once(100)) && (i != t.Key || g.once(100))))
	}
	switch {
	case g.once(150):
		out = append(out, v(1))
	case g.once(150) && len(out) > 1:
		out = out[:len(out)-1]
	}
	return out[:min(len(out), 8)]
}

// change is one of a table that was told.
func (g gen) change(t api.Table) api.Message {
	row := g.row(t)
	old := g.row(t)
	if n := min(len(row), len(old)); t.Key < n && !g.once(60) {
		old[t.Key] = row[t.Key]
	}
	id := t.ID
	if g.once(150) {
		id = 1 + g.Intn(10)
	}
	switch g.Intn(12) {
	case 0, 1, 2, 3:
		return api.Message{Kind: api.MsgInsert, Table: id, New: row}
	case 4, 5, 6, 7:
		return update(id, old, row)
	case 8, 9, 10:
		return api.Message{Kind: api.MsgDelete, Table: id, Old: row}
	}
	return emptied(id)
}

// message is one that may come now: most often at its right place.
func (g gen) message(w *words, local []api.Table) api.Message {
	progress := w.s.Origin(w.origin)
	place := max(1, progress+pick(g, 0, 0, 1, 5, 100, -1, -20, -100))
	wild := g.once(30)
	switch {
	case wild && g.once(2):
		return pick(g, mark(api.MsgCopy, place), mark(api.MsgCopied, place), begin(1+g.Intn(3), place), emptied(9))
	case wild, w.inside && g.once(7):
		lsn := w.lsn
		if !w.inside || g.once(12) {
			lsn = place
		}
		return commit(max(1, w.xid+pick(g, 0, 0, 0, 0, 0, 0, 0, 0, 0, 1)), max(1, lsn), max(1, lsn)+1+g.Intn(40))
	case !w.inside:
		return begin(1+g.Intn(3), place)
	case w.over && g.once(2):
		return g.change(g.table(local))
	case len(w.came) == 0 || g.once(6):
		return head(g.table(local))
	}
	return g.change(pick(g, w.came...))
}

// step lets an applier take a message, and holds it against the words.
func (p *pair) step() {
	p.t.Helper()
	i := p.g.Intn(len(p.appliers))
	a, w := p.appliers[i], p.words[i]
	m := p.g.message(w, p.s.Tables())
	s, e := publish.Encode(m)
	if e != api.OK || p.g.once(100) {
		s, e = s+"\x00", api.ErrPublishMessage
	}
	state := w.state()
	got := a.Take(s)
	p.same(fmt.Sprintf("Take of %+v (%d), %s", m, e, state), got, w.y2(m, e == api.OK))
	if e == api.OK {
		p.came[fmt.Sprint(m.Kind, " ", state, " ", int(got))]++
	} else {
		p.came[fmt.Sprint("none ", state, " ", int(got))]++
	}
	for i, w := range p.words {
		a := p.appliers[i]
		p.same("Inside", a.Inside(), w.inside)
		p.same("Progress", a.Progress(), p.twin.Origin(w.origin))
		p.same("Tally", a.Tally(), w.all)
	}
	p.same("the log's end", p.s.Log().End(), p.twin.Log().End())
}

// state is how an applier stands, in a word.
func (w *words) state() string {
	switch {
	case !w.inside:
		return "outside"
	case w.over:
		return "over"
	}
	return "inside"
}

// others do something: sessions write rows, tables are changed.
func (p *pair) others() {
	switch n := p.g.Intn(12); {
	case n < 2 || p.crowd && n > 6:
		x := p.both("Begin", func(_ *files.Disk, s *store.Store) string { return fmt.Sprint(s.Begin()) })
		xid, e := 0, 0
		fmt.Sscan(x, &xid, &e)
		if e == 0 {
			p.sessions = append(p.sessions, xid)
		}
	case n < 7 && len(p.sessions) > 0:
		p.writes(pick(p.g, p.sessions...))
	case n < 10 && len(p.sessions) > 0:
		at := p.g.Intn(len(p.sessions))
		x := p.sessions[at]
		p.sessions = slices.Delete(p.sessions, at, at+1)
		aborts := p.g.once(3)
		p.both("the end", func(_ *files.Disk, s *store.Store) string {
			if aborts {
				return fmt.Sprint(s.Abort(x))
			}
			return fmt.Sprint(s.Commit(x))
		})
	case n >= 10 && p.g.once(3):
		p.changesTables()
	}
}

func (p *pair) writes(x int) {
	l := p.s.Tables()
	if len(l) == 0 {
		return
	}
	t := pick(p.g, l...)
	var row api.Row
	for i, c := range t.Columns {
		row = append(row, p.g.value(c.Kind, c.Null && i != t.Key))
	}
	n := p.g.Intn(3)
	p.both("a write", func(_ *files.Disk, s *store.Store) string {
		switch n {
		case 0:
			return fmt.Sprint(s.Insert(x, t.Name, row))
		case 1:
			return fmt.Sprint(s.Update(x, t.Name, row))
		}
		return fmt.Sprint(s.Delete(x, t.Name, row[t.Key]))
	})
}

func (p *pair) changesTables() {
	name := pick(p.g, "t", "u", "u")
	c := columns(pick(p.g, "more t?", "n i?", "wide b?"))[0]
	n := p.g.Intn(4)
	if n == 3 {
		p.creates(name, pick(p.g, shapes()...))
		return
	}
	p.both("a change of tables", func(_ *files.Disk, s *store.Store) string {
		switch n {
		case 0:
			return fmt.Sprint(s.DropTable(name))
		case 1:
			return fmt.Sprint(s.WidenTable(name, c))
		}
		return fmt.Sprint(s.EmptyTable(name))
	})
	if n == 0 && !p.g.once(4) {
		p.creates(name, pick(p.g, shapes()...))
	}
}

// mishap lets disks die or fail, or ends what an applier has open.
func (p *pair) mishap() {
	n := 1 + p.g.Intn(8)
	switch p.g.Intn(5) {
	case 0:
		p.both("Arm", func(d *files.Disk, _ *store.Store) string { return fmt.Sprint(d.Arm(n)) })
	case 1:
		p.both("FailSync", func(d *files.Disk, _ *store.Store) string { return fmt.Sprint(d.FailSync(1 + n/4)) })
	case 2:
		p.both("Checkpoint", func(_ *files.Disk, s *store.Store) string { return fmt.Sprint(s.Checkpoint()) })
	case 3:
		if l := p.s.Active(); len(l) > 0 {
			x := pick(p.g, l...)
			p.both("the end", func(_ *files.Disk, s *store.Store) string {
				if n%2 == 0 {
					return fmt.Sprint(s.Commit(x))
				}
				return fmt.Sprint(s.Abort(x))
			})
		}
	case 4:
		p.crash()
	}
}

// crash loses some of what does not last, and opens both anew.
func (p *pair) crash() {
	p.t.Helper()
	tenths := p.g.Intn(11)
	p.both("Crash", func(d *files.Disk, _ *store.Store) string { return fmt.Sprint(d.Crash(pending(d, tenths))) })
	p.same("the files", bytesOf(p.a), bytesOf(p.b))
	p.open()
}

// TestByWords: random messages for one applier or two, of one origin or of two, with sessions beside them, tables that are
// changed, and disks that die, fail or are full, held against the words of Y2 to Y4; all that is logged must be the same to the byte.
func TestByWords(t *testing.T) {
	came := map[string]int{}
	for seed := range 400 {
		g := seeded(2200 + seed)
		p := newPair(t, g, pick(g, room, room, room, 9000, 12000), came)
		mishaps, rest := pick(g, 0, 0, 100, 25), pick(g, 0, 2, 8)
		doubtful := 0
		for range 300 {
			if p.over {
				break
			}
			p.step()
			if rest > 0 && g.once(rest) {
				p.others()
			}
			if mishaps > 0 && g.once(mishaps) {
				p.mishap()
			}
			if p.over {
				break
			}
			if p.s.Doubt() {
				doubtful++
			}
			if doubtful > 6 {
				p.crash()
				doubtful = 0
			}
		}
		p.same("the files", bytesOf(p.a), bytesOf(p.b))
	}
	for what, least := range map[string]int{
		"1 outside 0": 5000, "1 outside 2": 100, "1 outside 100": 100, "1 outside 108": 100, "1 inside 221": 100, "1 over 221": 50,
		"2 inside 0": 5000, "2 inside 222": 100, "2 over 0": 1000, "2 inside 2": 5, "2 inside 100": 5,
		"3 inside 0": 5000, "3 inside 220": 50, "3 inside 221": 20, "3 inside 222": 3, "3 inside 223": 200, "3 inside 2": 5, "3 over 0": 1000,
		"4 inside 0": 5000, "4 inside 220": 100, "4 inside 221": 20, "4 inside 222": 3, "4 inside 223": 200, "4 inside 2": 5, "4 over 0": 1000,
		"5 inside 0": 4000, "5 inside 220": 50, "5 inside 221": 20, "5 inside 222": 3, "5 inside 223": 50, "5 inside 2": 5, "5 over 0": 1000,
		"6 inside 0": 1000, "6 outside 221": 50, "6 inside 221": 50, "6 inside 223": 50, "6 inside 2": 5, "6 over 0": 500,
		"7 inside 0": 2000, "7 inside 221": 500, "7 inside 101": 10, "7 over 0": 1000, "7 over 221": 300, "7 outside 221": 100, "7 inside 2": 20, "7 inside 100": 50,
		"8 outside 221": 30, "8 inside 221": 100, "8 over 221": 50, "9 outside 221": 30, "9 inside 221": 100, "9 over 221": 50,
		"none outside 220": 100, "none inside 220": 300, "none over 220": 100,
	} {
		if came[what] < least {
			t.Errorf("%s came only %d times", what, came[what])
		}
	}
}
