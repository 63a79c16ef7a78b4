package query_test

import (
	"fmt"
	"slices"
	"strconv"
	"testing"

	"confluence/api"
	"confluence/expr"
	"confluence/query"
	"confluence/store"
	"confluence/value"
)

// refusal is the error with which the model gives up.
type refusal api.Errno

func must(e api.Errno) {
	if e != api.OK {
		panic(refusal(e))
	}
}

// model does a statement in a store by the words of Q3 to Q8, one sentence behind the other.
type model struct {
	s   *store.Store
	xid int
	x   said
	t   api.Table
}

// byWords is what the words say of a statement.
func byWords(s *store.Store, xid int, x said) (a api.Answer) {
	defer func() {
		if e := recover(); e != nil {
			a = api.Answer{Code: api.Errno(e.(refusal))}
		}
	}()
	m := &model{s: s, xid: xid, x: x}
	m.q3()
	switch x.kind {
	case query.Create, query.Drop, query.Widen, query.Empty:
		m.q4()
		return api.Answer{}
	case query.Insert:
		for _, r := range x.rows {
			must(s.Insert(xid, x.table, r))
		}
		return api.Answer{Count: len(x.rows)}
	}
	m.q6()
	chosen := m.chosen()
	switch x.kind {
	case query.Update:
		return m.update(chosen)
	case query.Delete:
		for _, r := range chosen {
			must(s.Delete(xid, x.table, r[m.t.Key]))
		}
		return api.Answer{Count: len(chosen)}
	}
	return m.choose(chosen)
}

func (m *model) q3() {
	if m.s.Doubt() && m.s.Disk().Dead() {
		must(api.ErrDead)
	}
	if m.s.Doubt() {
		must(api.ErrStoreDoubt)
	}
	switch m.x.kind {
	case query.Create, query.Drop, query.Widen, query.Empty:
		if m.xid != 0 {
			must(api.ErrQueryInside)
		}
		return
	case query.Insert, query.Update, query.Delete:
		if m.xid == 0 {
			must(api.ErrQueryOutside)
		}
	case query.Select:
	default:
		must(api.ErrArg)
	}
	if m.xid != 0 && !slices.Contains(m.s.Active(), m.xid) {
		must(api.ErrStoreNone)
	}
}

func (m *model) q4() {
	var e api.Errno
	switch m.x.kind {
	case query.Create:
		_, e = m.s.CreateTable(m.x.table, m.x.columns, m.x.key)
	case query.Drop:
		_, e = m.s.DropTable(m.x.table)
	case query.Widen:
		_, e = m.s.WidenTable(m.x.table, m.x.columns[0])
	default:
		_, e = m.s.EmptyTable(m.x.table)
	}
	must(e)
}

func exprOf(s string) *expr.Expr {
	e, why, _ := expr.Parse(s)
	must(why)
	return e
}

func (m *model) kind(s string) int {
	kind, e := exprOf(s).Check(m.t)
	must(e)
	return kind
}

func (m *model) eval(s string, r api.Row) api.Value {
	v, e := exprOf(s).Eval(m.t, r)
	must(e)
	return v
}

// place is where the column stands; the table has no name twice.
func (m *model) place(name string) int {
	for i, c := range m.t.Columns {
		if c.Name == name {
			return i
		}
	}
	must(api.ErrExprName)
	return -1
}

func (m *model) q6() {
	for _, t := range m.s.Tables() {
		if t.Name == m.x.table {
			m.t = t
		}
	}
	if m.t.ID == 0 {
		must(api.ErrTableNone)
	}
	ahead := map[string]bool{}
	for _, y := range m.x.settings {
		at := m.place(y.column)
		if at == m.t.Key {
			must(api.ErrColumnKey)
		}
		if ahead[y.column] {
			must(api.ErrColumnThere)
		}
		ahead[y.column] = true
		if k := m.kind(y.to); k != m.t.Columns[at].Kind && k != api.Null {
			must(api.ErrExprKind)
		}
	}
	for _, s := range m.x.list {
		m.kind(s)
	}
	if m.x.where != "" {
		if k := m.kind(m.x.where); k != api.Bool && k != api.Null {
			must(api.ErrQueryKind)
		}
	}
	if m.x.order != "" {
		m.kind(m.x.order)
	}
}

func (m *model) chosen() []api.Row {
	var l []api.Row
	for r := range m.s.Scan(m.xid, m.x.table) {
		if m.x.where == "" || m.eval(m.x.where, r) == v(true) {
			l = append(l, r)
		}
	}
	return l
}

func (m *model) update(chosen []api.Row) api.Answer {
	var fresh []api.Row
	for _, old := range chosen {
		r := slices.Clone(old)
		for _, y := range m.x.settings {
			r[m.place(y.column)] = m.eval(y.to, old)
		}
		fresh = append(fresh, r)
	}
	for _, r := range fresh {
		must(m.s.Update(m.xid, m.x.table, r))
	}
	return api.Answer{Count: len(fresh)}
}

func (m *model) choose(chosen []api.Row) api.Answer {
	if m.x.order != "" {
		chosen = m.ordered(chosen)
	}
	if n, e := strconv.Atoi(m.x.limit); e == nil && n < len(chosen) {
		chosen = chosen[:n]
	}
	a := api.Answer{Count: len(chosen)}
	for _, r := range chosen {
		out := slices.Clone(r)
		if len(m.x.list) > 0 {
			out = nil
		}
		for _, s := range m.x.list {
			out = append(out, m.eval(s, r))
		}
		a.Rows = append(a.Rows, out)
	}
	for _, s := range m.x.list {
		a.Names = append(a.Names, printedExpr(s))
	}
	if len(m.x.list) == 0 {
		for _, c := range m.t.Columns {
			a.Names = append(a.Names, c.Name)
		}
	}
	return a
}

// ordered puts each row ahead of the first one whose value is beyond its own.
func (m *model) ordered(chosen []api.Row) []api.Row {
	var values []api.Value
	for _, r := range chosen {
		values = append(values, m.eval(m.x.order, r))
	}
	var out []api.Row
	var have []api.Value
	for i, r := range chosen {
		at := 0
		for at < len(out) {
			c := value.Compare(values[i], have[at])
			if m.x.falling {
				c = -c
			}
			if c < 0 {
				break
			}
			at++
		}
		out, have = slices.Insert(out, at, r), slices.Insert(have, at, values[i])
	}
	return out
}

// twins are two stores to which the same is done: to the one by statements, to the other by their words.
type twins struct {
	g    garden
	a, b *desk
	open []int
	seen map[string]int // how often there was which answer, by the kind
}

// both does the same to both.
func (w *twins) both(do func(*desk) api.Errno) api.Errno {
	e, f := do(w.a), do(w.b)
	if e != f {
		w.a.t.Fatalf("of the twins the one says %d, the other %d", e, f)
	}
	return e
}

// xid is a transaction for a statement of that kind: one that fits it, mostly.
func (w *twins) xid(kind int) int {
	if w.g.once(30) {
		return w.g.Intn(40) - 3
	}
	if kind <= query.Empty || len(w.open) == 0 || kind == query.Select && w.g.once(4) {
		return 0
	}
	return pick(w.g, w.open...)
}

// columns are those of the table, if there is one.
func (w *twins) columns(name string) []api.Column {
	for _, t := range w.b.s.Tables() {
		if t.Name == name {
			return t.Columns
		}
	}
	return []api.Column{{Name: "id", Kind: api.Int}, {Name: "n", Kind: api.Int, Null: true}, {Name: "s", Kind: api.Text, Null: true}}
}

// statement is done to both, and what they answer and what has become of them is compared.
func (w *twins) statement() {
	t := w.a.t
	kind := pick(w.g, query.Insert, query.Insert, query.Insert, query.Update, query.Update, query.Delete, query.Select, query.Select)
	switch {
	case w.g.once(20):
		kind = query.Create
	case w.g.once(15):
		kind = pick(w.g, query.Drop, query.Widen, query.Widen, query.Empty)
	case w.g.once(20):
		kind = query.Begin + w.g.Intn(9)
	}
	table := pick(w.g, "t", "t", "t", "t", "u", "u", "w")
	x := w.g.over(w.columns(table)).statementOf(kind, table)
	xid := w.xid(kind)
	s := w.g.spaced(x.pieces())
	got := parsed(t, s).Run(w.a.s, xid)
	want := byWords(w.b.s, xid, x)
	if told(t, got) != told(t, want) || got.Count != want.Count || got.Code != want.Code {
		t.Fatalf("%q, in %d: %s, want %s; the table is %v", s, xid, told(t, got), told(t, want), w.columns(x.table))
	}
	w.seen[fmt.Sprint(kind, " ", int(got.Code), " ", min(got.Count, 1))]++
	w.same(s)
}

// same: the twins have not come to differ.
func (w *twins) same(what string) {
	t := w.a.t
	if w.a.s.Doubt() != w.b.s.Doubt() || w.a.d.Dead() != w.b.d.Dead() || w.a.tables() != w.b.tables() {
		t.Fatalf("behind %s the twins differ", what)
	}
	if !w.a.d.Dead() && bytesOf(t, w.a.d) != bytesOf(t, w.b.d) {
		t.Fatalf("behind %s the twins have logged otherwise", what)
	}
}

// other is something that no statement of this layer does.
func (w *twins) other() {
	switch g := w.g; {
	case g.once(60):
		n := 1 + g.Intn(12)
		w.both(func(k *desk) api.Errno { return k.d.Arm(n) })
	case g.once(60):
		w.both(func(k *desk) api.Errno { return k.d.FailSync(1) })
	case w.a.s.Doubt() && g.once(3), g.once(100):
		w.both(func(k *desk) api.Errno { k.crash(); return api.OK })
	case len(w.open) < 3 || g.once(3) && len(w.open) < 20:
		w.both(func(k *desk) api.Errno { _, e := k.s.Begin(); return e })
	case g.once(2):
		x := pick(g, w.open...)
		if g.once(3) {
			w.both(func(k *desk) api.Errno { return k.s.Abort(x) })
		} else {
			w.both(func(k *desk) api.Errno { _, e := k.s.Commit(x); return e })
		}
	default:
		x, name := pick(g, w.open...), pick(g, "a", "b")
		if g.once(2) {
			w.both(func(k *desk) api.Errno { return k.s.Savepoint(x, name) })
		} else {
			w.both(func(k *desk) api.Errno { return k.s.RollbackTo(x, name) })
		}
	}
	w.open = w.b.s.Active()
	w.same("another call")
}

// TestQ3ToQ8Random: random statements among transactions that come and go, on disks that die and fail.
func TestQ3ToQ8Random(t *testing.T) {
	seen := map[string]int{}
	for n := range 200 {
		w := &twins{g: seeded(int64(1230 + n)), a: bare(t), b: bare(t), seen: seen}
		for range 400 {
			if w.g.once(4) {
				w.other()
			} else {
				w.statement()
			}
		}
	}
	for _, s := range []string{
		"1 0 0", "1 51 0", "1 54 0", "1 56 0", "1 122 0", "2 0 0", "2 52 0", "2 107 0", "3 0 0", "3 52 0", "3 54 0", "3 107 0", "4 0 0", "4 52 0", "4 107 0",
		"5 0 1", "5 52 0", "5 57 0", "5 91 0", "5 92 0", "5 101 0", "5 123 0", "6 0 0", "6 0 1", "6 52 0", "6 54 0", "6 56 0", "6 57 0", "6 92 0", "6 112 0", "6 113 0", "6 114 0", "6 115 0", "6 124 0", "6 123 0",
		"7 0 0", "7 0 1", "7 52 0", "7 92 0", "7 112 0", "7 113 0", "7 114 0", "7 115 0", "7 124 0", "8 0 0", "8 0 1", "8 52 0", "8 101 0", "8 112 0", "8 113 0", "8 114 0", "8 115 0", "8 124 0", "8 2 0", "8 100 0", "6 2 0", "5 100 0", "9 1 0", "17 1 0",
	} {
		if seen[s] == 0 {
			t.Errorf("there was no answer %q (kind, error, rows)", s)
		}
	}
}
