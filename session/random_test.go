package session_test

import (
	"fmt"
	"math/rand"
	"slices"
	"strings"
	"testing"

	"confluence/api"
	"confluence/files"
	"confluence/query"
	"confluence/session"
	"confluence/store"
)

type gen struct{ *rand.Rand }

func seeded(n int64) gen { return gen{rand.New(rand.NewSource(n))} }

func pick[T any](g gen, l ...T) T { return l[g.Intn(len(l))] }

// once tells true, once in n times.
func (g gen) once(n int) bool { return g.Intn(n) == 0 }

// plain is a statement that is printed as it is written.
func plain(kind int, text, name string) said {
	return said{kind: kind, text: text, printed: text, name: name}
}

// statement is one of any kind.
func (g gen) statement() said {
	kind := pick(g, 1, 2, 3, 4, 5, 5, 5, 5, 6, 6, 6, 7, 8, 8, 8, 9, 9, 9, 9, 9, 10, 10, 10, 11, 12, 12, 13, 13, 13, 14, 15, 15, 16, 17)
	name := pick(g, "a", "b")
	switch kind {
	case query.Begin, query.Commit, query.Rollback:
		return plain(kind, map[int]string{query.Begin: "begin", query.Commit: "commit", query.Rollback: "rollback"}[kind], "")
	case query.Savepoint, query.RollbackTo, query.Release:
		return plain(kind, map[int]string{query.Savepoint: "savepoint ", query.RollbackTo: "rollback to ", query.Release: "release "}[kind]+name, name)
	case query.Prepare, query.CommitPrepared, query.RollbackPrepared:
		return plain(kind, map[int]string{query.Prepare: "prepare '", query.CommitPrepared: "commit prepared '", query.RollbackPrepared: "rollback prepared '"}[kind]+name+"'", name)
	case query.Insert, query.Update, query.Delete, query.Select:
		return plain(kind, g.aboutRows(kind), "")
	}
	return g.aboutTables(kind)
}

func (g gen) aboutRows(kind int) string {
	table := pick(g, "t", "t", "t", "u")
	key, n := 1+g.Intn(8), g.Intn(100)
	where := pick(g, "", fmt.Sprint(" where id = ", key), fmt.Sprint(" where id = ", key), fmt.Sprint(" where id = ", key), fmt.Sprint(" where id > ", key), fmt.Sprintf(" where %d / (id - %d) > 0", n, key))
	switch kind {
	case query.Insert:
		text := fmt.Sprintf("insert into %s values (%d, %d)", table, key, n)
		if g.once(3) {
			text += fmt.Sprintf(", (%d)", 1+g.Intn(8))
		}
		return text
	case query.Update:
		return fmt.Sprintf("update %s set n = %s%s", table, pick(g, fmt.Sprint(n), "n + 1", "null", fmt.Sprint("1 / ", n%3)), where)
	case query.Delete:
		return fmt.Sprintf("delete from %s%s", table, where)
	}
	return fmt.Sprintf("select %s from %s%s%s", pick(g, "*", "id", "n + 1, id", "none"), table, where, pick(g, "", " order by n", " order by id desc limit 2"))
}

func (g gen) aboutTables(kind int) said {
	table := pick(g, "t", "u", "u", "u")
	var x said
	switch kind {
	case query.Create:
		x = plain(kind, fmt.Sprintf("create table %s (id int key, n int)", table), "")
		x.change = func(s *store.Store) (int, api.Errno) {
			return s.CreateTable(table, []api.Column{{Name: "id", Kind: api.Int}, {Name: "n", Kind: api.Int, Null: true}}, 0)
		}
	case query.Drop:
		if table == "t" && !g.once(5) {
			table = "u" // else there would be few rows
		}
		x = plain(kind, "drop table "+table, "")
		x.change = func(s *store.Store) (int, api.Errno) { return s.DropTable(table) }
	case query.Widen:
		c := pick(g, "c", "d")
		x = plain(kind, fmt.Sprintf("alter table %s add %s text", table, c), "")
		x.change = func(s *store.Store) (int, api.Errno) {
			return s.WidenTable(table, api.Column{Name: c, Kind: api.Text, Null: true})
		}
	case query.Empty:
		x = plain(kind, "truncate "+table, "")
		x.change = func(s *store.Store) (int, api.Errno) { return s.EmptyTable(table) }
	}
	return x
}

// otherwise writes a statement otherwise, or something that is none.
func (g gen) otherwise(x said) said {
	switch {
	case g.once(40):
		return said{text: pick(g, "", "begin begin", x.text+" x y", x.text+")", strings.Repeat(" ", 1001), "commit prepared a", "insert into t values ('"+strings.Repeat("x", 201)+"')", "select ( from t")}
	case g.once(5):
		x.text = " " + strings.ReplaceAll(strings.ReplaceAll(x.text, ", ", ","), " ", "   ") + " "
	}
	return x
}

// pair is a store with machines, and its twin, on which words stand.
type pair struct {
	t        *testing.T
	g        gen
	a, b     *files.Disk
	s, twin  *store.Store
	machines []*session.Machine
	words    []*words
	over     bool
	came     map[string]int
}

func newPair(t *testing.T, g gen, capacity int, came map[string]int) *pair {
	t.Helper()
	p := &pair{t: t, g: g, a: formatted(t, capacity), b: formatted(t, capacity), came: came}
	p.open()
	return p
}

// open opens both stores anew, with one machine or two.
func (p *pair) open() {
	p.t.Helper()
	var e, f api.Errno
	p.s, e = store.Open(p.a)
	p.twin, f = store.Open(p.b)
	p.same("Open", e, f)
	if e != api.OK {
		p.over = true // no room is left for what it must log
		return
	}
	p.machines, p.words = nil, nil
	for range 1 + p.g.Intn(2) {
		n := 1 + p.g.Intn(4)
		p.machines = append(p.machines, machine(p.t, p.s, n))
		p.words = append(p.words, byWords(p.twin, n))
	}
}

// step lets both do the same, and holds them against each other.
func (p *pair) step() {
	p.t.Helper()
	i := p.g.Intn(len(p.machines))
	m, w := p.machines[i], p.words[i]
	who := 1 + p.g.Intn(w.n)
	if p.g.once(50) {
		who = pick(p.g, 0, -1, w.n+1, 9)
	}
	if p.g.once(40) {
		p.same(fmt.Sprintf("Quit(%d)", who), m.Quit(who), w.j9(who))
	} else {
		x := p.g.otherwise(p.g.statement())
		state := w.state(who)
		a := m.Step(who, x.text)
		p.same(fmt.Sprintf("%d: %s", who, x.text), told(p.t, a), told(p.t, w.j2(who, x)))
		p.came[fmt.Sprint(x.kind, " ", state, " ", class(a.Code))]++
	}
	p.stands()
	p.same("the log's end", p.s.Log().End(), p.twin.Log().End())
}

// state is how a session stands, in a word.
func (w *words) state(who int) string {
	switch {
	case w.failed[who]:
		return "failed"
	case w.xid[who] != 0:
		return "open"
	}
	return "closed"
}

// class is what an error is about.
func class(e api.Errno) string {
	switch e {
	case api.OK:
		return "ok"
	case api.ErrDead, api.ErrStoreDoubt:
		return "doubt"
	}
	return "refused"
}

func (p *pair) same(what string, got, want any) {
	p.t.Helper()
	if got != want {
		p.t.Fatalf("%s: %v, want %v", what, got, want)
	}
}

// stands holds what all have open against each other, and the last events.
func (p *pair) stands() {
	p.t.Helper()
	for i, w := range p.words {
		m := p.machines[i]
		for who := -1; who <= w.n+2; who++ {
			p.same(fmt.Sprintf("Xid(%d)", who), m.Xid(who), w.xid[who])
			p.same(fmt.Sprintf("Failed(%d)", who), m.Failed(who), w.failed[who])
		}
		if l := m.History(); !slices.Equal(l, w.events) {
			n := min(len(l), len(w.events))
			p.t.Fatalf("the history ends %v, want %v", l[max(0, n-1):], w.events[max(0, n-1):])
		}
	}
}

// both asks something of both disks, or both stores, that they must answer alike.
func (p *pair) both(what string, ask func(*files.Disk, *store.Store) any) {
	p.t.Helper()
	p.same(what, ask(p.a, p.s), ask(p.b, p.twin))
}

// mishap lets disks die or fail; others may also end what a session has open, or write the store aside.
func (p *pair) mishap() {
	n := 1 + p.g.Intn(6)
	switch p.g.Intn(6) {
	case 0:
		p.both("Arm", func(d *files.Disk, _ *store.Store) any { return d.Arm(n) })
	case 1:
		p.both("FailSync", func(d *files.Disk, _ *store.Store) any { return d.FailSync(n) })
	case 2:
		p.both("Checkpoint", func(_ *files.Disk, s *store.Store) any { at, e := s.Checkpoint(); return fmt.Sprint(at, e) })
	case 3:
		if l := p.s.Active(); len(l) > 0 {
			x := pick(p.g, l...)
			p.both("Abort", func(_ *files.Disk, s *store.Store) any { return s.Abort(x) })
		}
	case 4:
		if l := p.s.Active(); len(l) > 0 {
			x := pick(p.g, l...)
			p.both("Commit", func(_ *files.Disk, s *store.Store) any { at, e := s.Commit(x); return fmt.Sprint(at, e) })
		}
	case 5:
		p.crash()
	}
}

// crash loses some of what does not last, and opens both anew.
func (p *pair) crash() {
	p.t.Helper()
	tenths := p.g.Intn(11)
	p.both("Crash", func(d *files.Disk, _ *store.Store) any {
		var l []api.Keep
		for _, name := range d.List() {
			l = append(l, api.Keep{Name: name, Bytes: d.Pending(name) * tenths / 10})
		}
		return d.Crash(l)
	})
	p.same("the files", bytesOf(p.a), bytesOf(p.b))
	p.open()
}

// TestByWords: random scripts of several sessions, of one machine or two, with disks that die, fail, or are full, held
// against the words of J2 to J9; all that is logged must be the same to the byte.
func TestByWords(t *testing.T) {
	came := map[string]int{}
	for seed := range int64(150) {
		g := seeded(1300 + seed)
		p := newPair(t, g, pick(g, room, room, room, 9000, 12000), came)
		mishaps := pick(g, 0, 0, 100, 25)
		doubtful := 0
		for range 400 {
			p.step()
			if mishaps > 0 && g.once(mishaps) {
				p.mishap()
			}
			if p.s.Doubt() {
				doubtful++
			}
			if doubtful > 10 && !p.over {
				p.crash()
				doubtful = 0
			}
			if p.over {
				break
			}
		}
		p.same("the files", bytesOf(p.a), bytesOf(p.b))
	}
	for kind := 1; kind <= 17; kind++ {
		for _, state := range []string{"closed", "open", "failed"} {
			n := came[fmt.Sprint(kind, " ", state, " ok")] + came[fmt.Sprint(kind, " ", state, " refused")]
			if n < 20 {
				t.Errorf("the kind %d, %s, came only %d times", kind, state, n)
			}
		}
	}
	for _, c := range []string{"13 failed ok", "13 failed refused", "13 failed doubt", "11 failed doubt", "15 open refused", "15 open doubt", "10 open doubt", "5 closed doubt", "1 closed doubt", "16 closed doubt", "8 closed doubt"} {
		if came[c] < 3 {
			t.Errorf("%s came only %d times", c, came[c])
		}
	}
}
