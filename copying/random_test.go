package copying_test

import (
	"fmt"
	"math/rand"
	"slices"
	"testing"

	"confluence/api"
	"confluence/copying"
	"confluence/files"
	"confluence/publish"
	"confluence/store"
)

type gen struct{ *rand.Rand }

func seeded(n int) gen { return gen{rand.New(rand.NewSource(int64(n)))} }

func pick[T any](g gen, l ...T) T { return l[g.Intn(len(l))] }

// once tells true, once in n times.
func (g gen) once(n int) bool { return g.Intn(n) == 0 }

// shape is what a local table may be: its columns, and the key's place.
type shape struct {
	columns []string
	key     int
}

func shapes() []shape {
	return []shape{
		{[]string{"id i", "name t?", "more t?"}, 0},
		{[]string{"id i", "name t?"}, 0},
		{[]string{"more t?", "name t?", "id i", "n i?"}, 2},
		{[]string{"id i", "n i", "flag b?"}, 0},
		{[]string{"id t", "n i?", "flag b?"}, 0},
		{[]string{"name t", "id i?"}, 0},
		{[]string{"id i", "name t?", "n i?", "flag b"}, 0},
	}
}

// pair is a store and its twin, on which the words stand.
type pair struct {
	t        *testing.T
	g        gen
	a, b     *files.Disk
	s, twin  *store.Store
	sessions []int
	crowd    bool // do sessions begin more than they end?
	over     bool
	came     map[string]int
}

func newPair(t *testing.T, g gen, capacity int, came map[string]int) *pair {
	t.Helper()
	p := &pair{t: t, g: g, a: formatted(t, capacity), b: formatted(t, capacity), crowd: g.once(10), came: came}
	p.open()
	for _, name := range []string{"t", "u", "v"} {
		p.creates(name, pick(g, shapes()...))
	}
	return p
}

func (p *pair) open() {
	p.t.Helper()
	var e, f api.Errno
	p.s, e = store.Open(p.a)
	p.twin, f = store.Open(p.b)
	p.same("Open", e, f)
	p.over = e != api.OK // no room is left for what it must log
	p.sessions = nil
}

func (p *pair) same(what string, got, want any) {
	p.t.Helper()
	if got != want {
		p.t.Fatalf("%s: %v, want %v", what, got, want)
	}
}

// both asks something of both stores that they must answer alike.
func (p *pair) both(what string, ask func(*files.Disk, *store.Store) string) string {
	p.t.Helper()
	got := ask(p.a, p.s)
	p.same(what, got, ask(p.b, p.twin))
	return got
}

func (p *pair) creates(name string, x shape) {
	p.both("CreateTable", func(_ *files.Disk, s *store.Store) string {
		return fmt.Sprint(s.CreateTable(name, columns(x.columns...), x.key))
	})
}

// value is one of a kind, of few, or now and then null.
func (g gen) value(kind int, null bool) api.Value {
	if null && g.once(5) {
		return v(nil)
	}
	switch kind {
	case api.Int:
		return v(g.Intn(6))
	case api.Text:
		return v(pick(g, "a", "b", "c", "d", ""))
	}
	return v(g.once(2))
}

// table is one of a copy: most often of columns of a local one.
func (g gen) table(local []api.Table) api.Table {
	id := 1 + g.Intn(40)
	if len(local) == 0 || g.once(60) {
		return told(id, pick(g, "t", "u", "none"), "id i", "name t?")
	}
	t := pick(g, local...)
	t.ID, t.Version = id, 1+g.Intn(3)
	key := t.Columns[t.Key]
	all := slices.Clone(t.Columns)
	t.Columns = nil
	for _, c := range all {
		if c == key || !c.Null && !g.once(60) || g.Intn(3) > 0 {
			c.Null = c != key && (c.Null && !g.once(5) || g.once(10))
			t.Columns = append(t.Columns, c)
		}
	}
	g.Shuffle(len(t.Columns), func(i, j int) { t.Columns[i], t.Columns[j] = t.Columns[j], t.Columns[i] })
	t.Key = slices.IndexFunc(t.Columns, func(c api.Column) bool { return c.Name == key.Name })
	if g.once(60) {
		c := &t.Columns[g.Intn(len(t.Columns))]
		*c = api.Column{Name: pick(g, c.Name, "none"), Kind: pick(g, api.Int, api.Text), Null: false}
		if g.once(4) {
			t.Key = g.Intn(len(t.Columns))
		}
	}
	if _, e := publish.Encode(head(t)); e != api.OK {
		return g.table(local)
	}
	return t
}

// rowsOf are some rows of a table of a copy; once in so many times something is wrong about one.
func (g gen) rowsOf(t api.Table, wrong int) []api.Message {
	var l []api.Message
	var keys []api.Value
	for range g.Intn(5) {
		var out api.Row
		for i, c := range t.Columns {
			kind := c.Kind
			if g.once(wrong) {
				kind = 1 + g.Intn(3)
			}
			out = append(out, g.value(kind, c.Null && i != t.Key || g.once(wrong)))
		}
		if slices.Contains(keys, out[t.Key]) && !g.once(wrong) {
			continue
		}
		keys = append(keys, out[t.Key])
		switch {
		case g.once(wrong) && len(out) < 8:
			out = append(out, v(1))
		case g.once(wrong) && len(out) > 1:
			out = out[:len(out)-1]
		}
		l = append(l, api.Message{Kind: api.MsgInsert, Table: t.ID, New: out})
	}
	return l
}

// copy is one, or now and then something that is none.
func (g gen) copy(t *testing.T, local []api.Table) []string {
	lsn := 1 + g.Intn(20000)
	l := []api.Message{from(lsn)}
	var ids []int
	var names []string
	for range g.Intn(4) {
		x := g.table(local)
		if (slices.Contains(ids, x.ID) || slices.Contains(names, x.Name)) && !g.once(40) {
			continue
		}
		ids, names = append(ids, x.ID), append(names, x.Name)
		l = append(append(l, head(x)), g.rowsOf(x, pick(g, 40, 1000, 1000, 1000))...)
	}
	l = append(l, to(lsn))
	if g.once(12) {
		at := g.Intn(len(l))
		switch g.Intn(4) {
		case 0:
			l = slices.Delete(l, at, at+1)
		case 1:
			l = slices.Insert(l, at, pick(g, others()...))
		case 2:
			l = slices.Insert(l, at, pick(g, l...))
		case 3:
			other := g.Intn(len(l))
			l[at], l[other] = l[other], l[at]
		}
	}
	out := laid(t, l...)
	if g.once(40) && len(out) > 0 {
		out[g.Intn(len(out))] += "\x00"
	}
	return out
}

// publication is one of some tables, most often a right one.
func (g gen) publication() api.Publication {
	p := pub()
	for _, name := range []string{"v", "t", "none", "u"} {
		if g.once(3) {
			continue
		}
		x := api.Published{Table: name, Kinds: 1 + g.Intn(15)}
		x.Filter = pick(g, "", "", "", "n > 1", "n is null or n < 3", "id <> 2", "name = 'a'", "10 / n = 2", "length(name) = 1", "id", "flag", "not flag", "coalesce(more, 'a') <> 'b'", "id in (1, 2)", "name || more = 'ab'")
		for _, c := range []string{"name", "flag", "n", "more", "other", "id"} {
			if g.once(5) {
				x.Columns = append(x.Columns, c)
			}
		}
		p.Tables = append(p.Tables, x)
	}
	g.Shuffle(len(p.Tables), func(i, j int) { p.Tables[i], p.Tables[j] = p.Tables[j], p.Tables[i] })
	if g.once(30) && len(p.Tables) > 0 {
		switch x := &p.Tables[0]; g.Intn(3) {
		case 0:
			x.Kinds = 16
		case 1:
			x.Filter = "id ="
		case 2:
			p.Tables = append(p.Tables, *x)
		}
	}
	return p
}

// exports holds a copy of the store against the words, and for a right one counts its tables and rows.
func (p *pair) exports() {
	p.t.Helper()
	x := p.g.publication()
	l, lsn, e := copying.Export(p.s, x)
	want, at, f := k1(p.b, p.twin, x)
	p.same(fmt.Sprintf("Export(%+v)", x), fmt.Sprint(lsn, e), fmt.Sprint(at, f))
	if !slices.Equal(l, laid(p.t, want...)) {
		p.t.Fatalf("Export(%+v): %s, want %s", x, words(l, lsn), words(laid(p.t, want...), at))
	}
	p.came[fmt.Sprint("export ", int(e))]++
	for _, m := range want {
		p.came[fmt.Sprint("told ", m.Kind)]++
	}
	if e == api.OK {
		if _, is := copyByWords(l); !is {
			p.t.Fatalf("%s is no copy", words(l, lsn))
		}
	}
}

// imports takes a copy, and holds what is answered against the words.
func (p *pair) imports() {
	p.t.Helper()
	l := p.g.copy(p.t, p.s.Tables())
	origin := pick(p.g, "pub", "pub", "other")
	if p.g.once(60) {
		origin = pick(p.g, "", "A", "a-b")
	}
	end := p.s.Log().End()
	n, e := copying.Import(p.s, origin, l)
	m, f := k2(p.b, p.twin, origin, l)
	p.same(fmt.Sprintf("Import(%q, %s)", origin, words(l, 0)), fmt.Sprint(n, e), fmt.Sprint(m, f))
	p.came[fmt.Sprint("import ", int(e))]++
	p.came["rows"] += n
	if e != api.OK && p.s.Log().End() > end {
		p.came[fmt.Sprint("aborted ", int(e))]++
	}
	for _, name := range []string{"pub", "other"} {
		p.same("Origin", p.s.Origin(name), p.twin.Origin(name))
	}
	p.same("the log's end", p.s.Log().End(), p.twin.Log().End())
	p.same("who is open", fmt.Sprint(p.s.Active()), fmt.Sprint(p.twin.Active()))
}

// others do something: sessions write rows, tables are changed.
func (p *pair) others() {
	switch n := p.g.Intn(12); {
	case n < 2 || p.crowd && n > 6:
		x := p.both("Begin", func(_ *files.Disk, s *store.Store) string { return fmt.Sprint(s.Begin()) })
		xid, e := 0, 0
		fmt.Sscan(x, &xid, &e)
		if e == 0 {
			p.sessions = append(p.sessions, xid)
		}
	case n < 5 && len(p.sessions) > 0:
		p.writes(pick(p.g, p.sessions...))
	case n < 8 && len(p.sessions) > 0:
		p.ends()
	case n == 8:
		p.endsPrepared()
	default:
		p.changesTables()
	}
}

// endsPrepared ends one that waits.
func (p *pair) endsPrepared() {
	name, commits := pick(p.g, "w", "x"), p.g.once(4)
	p.both("the end of one that waits", func(_ *files.Disk, s *store.Store) string {
		if commits {
			return fmt.Sprint(s.CommitPrepared(name))
		}
		return fmt.Sprint(s.AbortPrepared(name))
	})
}

// ends ends a session.
func (p *pair) ends() {
	at := p.g.Intn(len(p.sessions))
	x := p.sessions[at]
	p.sessions = slices.Delete(p.sessions, at, at+1)
	way, name := p.g.Intn(4), pick(p.g, "w", "x")
	p.both("the end", func(_ *files.Disk, s *store.Store) string {
		switch way {
		case 0:
			return fmt.Sprint(s.Commit(x))
		case 1:
			return fmt.Sprint(s.Prepare(x, name))
		}
		return fmt.Sprint(s.Abort(x))
	})
}

func (p *pair) writes(x int) {
	l := p.s.Tables()
	if len(l) == 0 {
		return
	}
	t := pick(p.g, l...)
	var row api.Row
	for i, c := range t.Columns {
		row = append(row, p.g.value(c.Kind, c.Null && i != t.Key))
	}
	n := p.g.Intn(3)
	p.both("a write", func(_ *files.Disk, s *store.Store) string {
		switch n {
		case 0, 1:
			return fmt.Sprint(s.Insert(x, t.Name, row))
		}
		return fmt.Sprint(s.Delete(x, t.Name, row[t.Key]))
	})
}

func (p *pair) changesTables() {
	name := pick(p.g, "t", "u", "v")
	c := columns(pick(p.g, "more t?", "n i?", "wide b?"))[0]
	n := p.g.Intn(12)
	if n == 11 {
		p.creates(name, pick(p.g, shapes()...))
		return
	}
	p.both("a change of tables", func(_ *files.Disk, s *store.Store) string {
		switch n {
		case 0:
			return fmt.Sprint(s.DropTable(name))
		case 1:
			return fmt.Sprint(s.WidenTable(name, c))
		}
		return fmt.Sprint(s.EmptyTable(name))
	})
	if n == 0 && !p.g.once(4) {
		p.creates(name, pick(p.g, shapes()...))
	}
}

// mishap lets disks die or fail, or loses what does not last.
func (p *pair) mishap() {
	n := 1 + p.g.Intn(12)
	switch p.g.Intn(4) {
	case 0, 1:
		p.both("Arm", func(d *files.Disk, _ *store.Store) string { return fmt.Sprint(d.Arm(n)) })
	case 2:
		p.both("FailSync", func(d *files.Disk, _ *store.Store) string { return fmt.Sprint(d.FailSync(1 + n/6)) })
	case 3:
		p.crash()
	}
}

func (p *pair) crash() {
	p.t.Helper()
	tenths := p.g.Intn(11)
	p.both("Crash", func(d *files.Disk, _ *store.Store) string { return fmt.Sprint(d.Crash(pending(d, tenths))) })
	p.same("the files", bytesOf(p.a), bytesOf(p.b))
	p.open()
}

// TestByWords: random stores, publications and messages, with sessions beside them, tables that are changed, and disks that
// die, fail or are full, held against the words of K1 and K2; all that is logged must be the same to the byte.
func TestByWords(t *testing.T) {
	came := map[string]int{}
	for seed := range 300 {
		g := seeded(2300 + seed)
		p := newPair(t, g, pick(g, room, room, room, 9000, 12000), came)
		mishaps, rest := pick(g, 0, 0, 60, 20), pick(g, 1, 2, 4)
		doubtful := 0
		for range 120 {
			if g.once(3) {
				p.exports()
			} else {
				p.imports()
			}
			for range rest {
				p.others()
			}
			if mishaps > 0 && g.once(mishaps) {
				p.mishap()
			}
			if p.over {
				break
			}
			if p.s.Doubt() {
				doubtful++
			}
			if doubtful > 6 {
				p.crash()
				doubtful = 0
			}
			if p.over {
				break
			}
		}
		p.same("the files", bytesOf(p.a), bytesOf(p.b))
	}
	for what, least := range map[string]int{
		"export 0": 5000, "export 2": 100, "export 100": 100, "export 180": 300, "told 2": 5000, "told 3": 5000,
		"import 0": 3000, "rows": 5000, "import 1": 150, "import 2": 100, "import 100": 100, "import 108": 50, "import 230": 1000, "import 231": 500, "import 232": 1000, "aborted 231": 30, "aborted 232": 100, "aborted 2": 30,
	} {
		if came[what] < least {
			t.Errorf("%s came only %d times", what, came[what])
		}
	}
}
