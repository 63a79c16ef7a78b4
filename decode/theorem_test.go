package decode_test

import (
	"fmt"
	"math/rand"
	"slices"
	"strings"
	"testing"

	"confluence/api"
	"confluence/catalog"
	"confluence/decode"
	"confluence/files"
	"confluence/publish"
	"confluence/record"
	"confluence/store"
	"confluence/value"
)

// readAhead reads to the end by Aheads of random numbers.
func readAhead(t *testing.T, r *rand.Rand, x *decode.Decoder) []string {
	t.Helper()
	var told []string
	for {
		l, e := x.Ahead(1 + r.Intn(9))
		if e == api.ErrDecodeEnd {
			return told
		}
		if e != api.OK {
			t.Fatalf("Ahead: %d", e)
		}
		told = append(told, l...)
	}
}

// behind has of messages those of transactions that end behind a place.
func behind(t *testing.T, l []string, place int) []string {
	t.Helper()
	var out, one []string
	for _, s := range l {
		one = append(one, s)
		if m, _ := publish.Decode(s); m.Kind == api.MsgCommit {
			if m.End > place {
				out = append(out, one...)
			}
			one = nil
		}
	}
	if len(one) > 0 {
		t.Errorf("the last message is no commit: %s", words(one))
	}
	return out
}

// ends are where the transactions end that messages tell.
func ends(l []string) []int {
	var out []int
	for _, s := range l {
		if m, _ := publish.Decode(s); m.Kind == api.MsgCommit {
			out = append(out, m.End)
		}
	}
	return out
}

// TestD5Limits: random logs in which nothing is wrong: the same is told with each limit, by Step and by Ahead; what is at hand is never more than the limit, or one change; no file is left.
func TestD5Limits(t *testing.T) {
	spills := 0
	for seed := range int64(40) {
		r := rand.New(rand.NewSource(seed))
		w := writerOf(t, r, 0)
		for range 150 {
			w.write()
		}
		w.flush()
		x := slotAt(0, w.from)
		if seed%2 == 0 {
			x.Publication = picky()
		}
		want := whole(t, w.opens(x, never))
		for _, limit := range limits {
			d := w.opens(x, limit)
			if got := readAhead(t, r, d); !slices.Equal(got, want) {
				t.Errorf("seed %d, limit %d: Ahead told %s, want %s", seed, limit, words(got), words(want))
			}
			d = w.opens(x, limit)
			var got []string
			for {
				l, e := d.Step()
				if e != api.OK {
					is(t, "Step", e, api.ErrDecodeEnd)
					break
				}
				got = append(got, l...)
				c := d.Counts()
				if c.Bytes > limit && c.Changes > 1 {
					t.Errorf("limit %d: Counts: %+v", limit, c)
				}
				if c.Open == 0 {
					w.clean()
				}
				if len(l) > 0 && len(ends(l)) != 1 {
					t.Errorf("a Step told %s", words(l))
				}
			}
			if !slices.Equal(got, want) {
				t.Errorf("seed %d, limit %d: Step told %s, want %s", seed, limit, words(got), words(want))
			}
			spills += d.Counts().Spilled
		}
	}
	if spills < 1000 {
		t.Errorf("%d segments were written", spills)
	}
}

// anew holds what decoders tell that are opened anew, at each end that was told and around it, with the Restart for that.
func anew(t *testing.T, b *bench, x api.Slot, d *decode.Decoder, told []string, limit int) {
	t.Helper()
	for _, end := range ends(told) {
		for by := -1; by <= 1; by++ {
			y := x
			y.Name, y.Confirmed, y.Restart = "anew", end+by, d.Restart(end+by)
			z := b.opens(y, limit)
			if got, want := whole(t, z), behind(t, told, end+by); !slices.Equal(got, want) {
				t.Fatalf("confirmed %d, restart %d: told %s, want %s", y.Confirmed, y.Restart, words(got), words(want))
			}
			// Both have come to the same.
			if z.Position() != d.Position() || z.Counts().Open != d.Counts().Open || z.Restart(1<<40) != d.Restart(1<<40) {
				t.Errorf("Position %d, Counts %+v, Restart %d, want %d, %+v, %d", z.Position(), z.Counts(), z.Restart(1<<40), d.Position(), d.Counts(), d.Restart(1<<40))
			}
		}
	}
}

// TestD5Anew: of random logs.
func TestD5Anew(t *testing.T) {
	told, later := 0, 0
	for seed := range int64(40) {
		r := rand.New(rand.NewSource(seed))
		w := writerOf(t, r, 0)
		for range 100 {
			w.write()
		}
		w.flush()
		x := slotAt(0, w.from)
		if seed%2 == 0 {
			x.Publication = picky()
		}
		d := w.opens(x, 200)
		l := whole(t, d)
		anew(t, w.bench, x, d, l, []int{0, 100, never}[seed%3])
		for _, end := range ends(l) {
			told++
			if d.Restart(end) != w.from {
				later++
			}
		}
	}
	if told < 100 || later < 30 {
		t.Errorf("%d commits, %d of which need not be read from the beginning", told, later)
	}
}

// deed is a transaction of a store that was committed: its number, its commit's position and end, its surviving changes with their tables.
type deed struct {
	xid, at, end int
	changes      []api.Change
	tables       []api.Table
}

// work is a store with all that it answered.
type work struct {
	t     *testing.T
	r     *rand.Rand
	d     *files.Disk
	s     *store.Store
	open  []*session
	waits map[string]*deed
	done  []*deed
	names int
	came  map[string]int
}

// session is a transaction that is open: what it has done, and where its savepoints stand in that.
type session struct {
	deed
	points []int
}

func workOf(t *testing.T, r *rand.Rand) *work {
	t.Helper()
	d, _ := files.New(10000000)
	is(t, "Format", store.Format(d), api.OK)
	w := &work{t: t, r: r, d: d, waits: map[string]*deed{}, came: map[string]int{}}
	w.reopen()
	w.widths("t", 2)
	w.widths("u", 3)
	return w
}

func (w *work) reopen() {
	w.t.Helper()
	s, e := store.Open(w.d)
	if e != api.OK {
		w.t.Fatalf("store.Open: %d", e)
	}
	w.s, w.open = s, nil
}

// widths makes a table with so many columns.
func (w *work) widths(name string, n int) {
	columns := []api.Column{{Name: "id", Kind: api.Int}}
	for i := range n - 1 {
		columns = append(columns, api.Column{Name: fmt.Sprint("s", i), Kind: api.Text, Null: true})
	}
	w.s.CreateTable(name, columns, 0)
}

func (w *work) table(name string) (api.Table, bool) {
	for _, t := range w.s.Tables() {
		if t.Name == name {
			return t, true
		}
	}
	return api.Table{}, false
}

// does lets a transaction write a row, if it may.
func (w *work) does(x *session) {
	t, there := w.table([]string{"t", "u", "v"}[w.r.Intn(3)])
	if !there {
		return
	}
	key := api.Value{Kind: api.Int, N: w.r.Intn(12)}
	next := api.Row{key}
	for range len(t.Columns) - 1 {
		next = append(next, api.Value{Kind: api.Text, S: strings.Repeat("z", w.r.Intn(150))})
	}
	old, e := w.s.Get(x.xid, t.Name, key)
	c := api.Change{Kind: api.RecInsert, Table: t.ID, New: next}
	switch {
	case e != api.OK:
		e = w.s.Insert(x.xid, t.Name, next)
	case w.r.Intn(2) == 0:
		c = api.Change{Kind: api.RecUpdate, Table: t.ID, Old: old, New: next}
		e = w.s.Update(x.xid, t.Name, next)
	default:
		c = api.Change{Kind: api.RecDelete, Table: t.ID, Old: old}
		e = w.s.Delete(x.xid, t.Name, key)
	}
	if e == api.OK {
		x.changes = append(x.changes, c)
		x.tables = append(x.tables, t)
		w.came["change"]++
	}
}

// point sets a savepoint, goes back to one, or releases one.
func (w *work) point(x *session) {
	n := len(x.points)
	switch k := w.r.Intn(3); {
	case k == 0 && w.s.Savepoint(x.xid, fmt.Sprint("s", n)) == api.OK:
		x.points = append(x.points, len(x.changes))
	case k == 1 && n > 0:
		i := w.r.Intn(n)
		if w.s.RollbackTo(x.xid, fmt.Sprint("s", i)) == api.OK {
			x.changes, x.tables = x.changes[:x.points[i]:x.points[i]], x.tables[:x.points[i]:x.points[i]]
			x.points = x.points[:i+1]
			w.came["back"]++
		}
	case k == 2 && n > 0:
		i := w.r.Intn(n)
		if w.s.Release(x.xid, fmt.Sprint("s", i)) == api.OK {
			x.points = x.points[:i]
		}
	}
}

// ends commits a transaction, aborts it, or lets it wait.
func (w *work) ends(i int) {
	w.t.Helper()
	x := w.open[i]
	w.open = slices.Delete(w.open, i, i+1)
	switch w.r.Intn(5) {
	case 0:
		is(w.t, "Abort", w.s.Abort(x.xid), api.OK)
	case 1:
		w.names++
		name := fmt.Sprint("w", w.names)
		is(w.t, "Prepare", w.s.Prepare(x.xid, name), api.OK)
		w.waits[name] = &x.deed
	case 2:
		at, e := w.s.CommitFrom(x.xid, "origin", 9000)
		w.commits(&x.deed, at, e, api.Rec{Kind: api.RecCommit, Xid: x.xid, Name: "origin", Origin: 9000})
	default:
		at, e := w.s.Commit(x.xid)
		w.commits(&x.deed, at, e, commit(x.xid))
	}
}

func (w *work) commits(x *deed, at int, e api.Errno, r api.Rec) {
	w.t.Helper()
	is(w.t, "Commit", e, api.OK)
	x.at, x.end = at, at+size(w.t, r)
	w.done = append(w.done, x)
	w.came["commit"]++
}

// waited ends one that waits.
func (w *work) waited() {
	w.t.Helper()
	for _, name := range w.s.Prepared() {
		x := w.waits[name]
		delete(w.waits, name)
		if w.r.Intn(3) == 0 {
			is(w.t, "AbortPrepared", w.s.AbortPrepared(name), api.OK)
			return
		}
		at, e := w.s.CommitPrepared(name)
		w.commits(x, at, e, commit(x.xid))
		w.came["waited"]++
		return
	}
}

// reshapes changes a table, if it may.
func (w *work) reshapes() {
	name := []string{"t", "u", "v"}[w.r.Intn(3)]
	t, there := w.table(name)
	switch n := w.r.Intn(4); {
	case !there:
		w.widths(name, 1+w.r.Intn(3))
	case n == 0:
		w.s.DropTable(name)
	case n == 1 && len(t.Columns) < api.MaxColumns:
		w.s.WidenTable(name, api.Column{Name: fmt.Sprint("s", len(t.Columns)), Kind: api.Text, Null: true})
	case n == 2:
		w.empties(name)
	}
}

// crashes loses some of what does not last, and opens the store anew.
func (w *work) crashes() {
	w.t.Helper()
	var l []api.Keep
	for _, name := range w.d.List() {
		l = append(l, api.Keep{Name: name, Bytes: w.r.Intn(w.d.Pending(name) + 1)})
	}
	is(w.t, "Crash", w.d.Crash(l), api.OK)
	w.reopen()
	w.came["crash"]++
}

func (w *work) step() {
	w.t.Helper()
	n := w.r.Intn(100)
	i := -1
	if len(w.open) > 0 {
		i = w.r.Intn(len(w.open))
	}
	switch {
	case n < 15 && len(w.open) < 4 || i < 0 && n < 60:
		x, e := w.s.Begin()
		is(w.t, "Begin", e, api.OK)
		w.open = append(w.open, &session{deed: deed{xid: x}})
	case n < 60 && i >= 0:
		w.does(w.open[i])
	case n < 75 && i >= 0:
		w.point(w.open[i])
	case n < 87 && i >= 0:
		w.ends(i)
	case n < 90:
		w.waited()
	case n < 94:
		w.reshapes()
	case n < 98:
		w.checkpoint(w.r.Intn(2) == 0)
	default:
		w.crashes()
	}
}

// checkpoint makes one, if it may; it may, if all is over.
func (w *work) checkpoint(over bool) {
	w.t.Helper()
	for over && len(w.open) > 0 {
		w.ends(0)
	}
	for over && len(w.s.Prepared()) > 0 {
		w.waited()
	}
	if _, e := w.s.Checkpoint(); e == api.OK {
		w.came["checkpoint"]++
	}
	// Nobody has written a table then.
	if over {
		w.empties([]string{"t", "u", "v"}[w.r.Intn(3)])
	}
}

// empties empties a table, if it may.
func (w *work) empties(name string) {
	t, _ := w.table(name)
	at, e := w.s.EmptyTable(name)
	if e != api.OK {
		return
	}
	s, _, _ := w.s.Log().Read(at)
	r, _ := record.Decode(s)
	w.done = append(w.done, &deed{r.Xid, at, at + 7 + len(s), []api.Change{{Kind: api.RecEmpty, Table: t.ID}}, []api.Table{t}})
	w.came["empty"]++
}

// wants is M, as a publication wants it.
func (w *work) wants(p api.Publication) []string {
	w.t.Helper()
	var out []string
	for _, x := range w.done {
		y, _ := publish.New(p)
		is(w.t, "publish.Begin", y.Begin(x.xid, x.at), api.OK)
		for i, c := range x.changes {
			l, e := y.Change(x.tables[i], c)
			is(w.t, "publish.Change", e, api.OK)
			out = append(out, l...)
		}
		l, e := y.Commit(x.end)
		is(w.t, "publish.Commit", e, api.OK)
		out = append(out, l...)
	}
	return out
}

// folded is what messages make: the rows of each table, by their keys as they are printed.
func folded(l []string) map[int]map[string]api.Row {
	rows, tables := map[int]map[string]api.Row{}, map[int]api.Table{}
	for _, s := range l {
		m, _ := publish.Decode(s)
		key := func(r api.Row) string { return value.Print(r[tables[m.Table].Key]) }
		switch m.Kind {
		case api.MsgTable:
			tables[m.Tab.ID] = m.Tab
			if rows[m.Tab.ID] == nil {
				rows[m.Tab.ID] = map[string]api.Row{}
			}
		case api.MsgInsert, api.MsgUpdate:
			rows[m.Table][key(m.New)] = m.New
		case api.MsgDelete:
			delete(rows[m.Table], key(m.Old))
		case api.MsgEmpty:
			clear(rows[m.Table])
		}
	}
	return rows
}

// TestD5Store: the log of a store that several work on, with crashes between: what is told, from its first checkpoint on, is what the store has answered, whatever the limit; opened anew, it is what was told behind that.
func TestD5Store(t *testing.T) {
	came := map[string]int{}
	for seed := range int64(40) {
		r := rand.New(rand.NewSource(seed))
		w := workOf(t, r)
		for range 200 {
			w.step()
		}
		b := &bench{t, w.d, w.s.Log()}
		b.flush()
		for _, p := range []api.Publication{wanted(), {Name: "p", Tables: []api.Published{{Table: "t", Kinds: 15, Columns: []string{"s0"}, Filter: "id > 4"}, {Table: "v", Kinds: 5}}}} {
			x := slotAt(0, first)
			x.Publication = p
			want := w.wants(p)
			for _, limit := range limits {
				if got := readAhead(t, r, b.opens(x, limit)); !slices.Equal(got, want) {
					t.Fatalf("seed %d, limit %d: told %s, want %s", seed, limit, words(got), words(want))
				}
			}
			d := b.opens(x, 1000)
			if got := whole(t, d); !slices.Equal(got, want) {
				t.Fatalf("seed %d: told %s, want %s", seed, words(got), words(want))
			}
			if seed%8 == 0 {
				anew(t, b, x, d, want, 300)
			}
		}
		for k, n := range w.came {
			came[k] += n
		}
	}
	for _, k := range []string{"change", "commit", "back", "waited", "empty", "crash", "checkpoint"} {
		if came[k] < 40 {
			t.Errorf("too little came: %v", came)
		}
	}
}

// TestD5Fold: what is told of a store's tables makes just their rows.
func TestD5Fold(t *testing.T) {
	rows := 0
	for seed := range int64(30) {
		w := workOf(t, rand.New(rand.NewSource(1000+seed)))
		for range 150 {
			w.step()
		}
		b := &bench{t, w.d, w.s.Log()}
		b.flush()
		made := folded(whole(t, b.open(0, first, 500)))
		for _, tab := range w.s.Tables() {
			var got, want []string
			for r := range w.s.Scan(0, tab.Name) {
				want = append(want, fmt.Sprint(r))
			}
			for _, r := range made[tab.ID] {
				// What was told ahead of a column has nothing there.
				r, e := catalog.Fit(tab, r)
				is(t, "Fit", e, api.OK)
				got = append(got, fmt.Sprint(r))
			}
			slices.Sort(want)
			slices.Sort(got)
			if !slices.Equal(got, want) {
				t.Errorf("seed %d, %s: the rows are %q, want %q", seed, tab.Name, got, want)
			}
			rows += len(got)
		}
	}
	if rows < 100 {
		t.Errorf("%d rows", rows)
	}
}
