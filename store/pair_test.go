package store_test

import (
	"fmt"
	"math/rand"
	"slices"
	"strings"
	"testing"

	"confluence/api"
	"confluence/files"
	"confluence/store"
)

// pair is a store and its model, which are asked the same, each on a disk of its own, to which the same is done.
type pair struct {
	t     *testing.T
	r     *rand.Rand
	d     *files.Disk
	s     *store.Store
	m     *model
	trail []string
	came  map[string]int
	long  bool // texts are
}

func (p *pair) note(format string, l ...any) { p.trail = append(p.trail, fmt.Sprintf(format, l...)) }

func (p *pair) fail(what string, got, want any) {
	p.t.Helper()
	p.t.Fatalf("%s: %v, want %v, behind\n%s", what, got, want, strings.Join(p.trail, "\n"))
}

// newPair begins with a new store, or, of one in ten, with one that has few numbers left.
func newPair(t *testing.T, seed int64, capacity int, came map[string]int) *pair {
	t.Helper()
	p := &pair{t: t, r: rand.New(rand.NewSource(seed)), came: came}
	p.note("seed %d, capacity %d", seed, capacity)
	p.long = p.r.Intn(3) == 0
	if p.r.Intn(10) > 0 {
		p.d = newDisk(t, capacity)
		p.m = &model{d: newDisk(t, capacity)}
		got, want := store.Format(p.d), p.m.format()
		if got != want {
			p.fail("Format", got, want)
		}
	} else {
		next := lastXid - p.r.Intn(30)
		b := baseOf(8192, checks(next, lastXid-1), nil, nil)
		l := []api.File{{Name: "base", Bytes: b.bytes()}, {Name: "wal.000001"}}
		p.d = loadedWith(t, capacity+len(b.bytes()), l)
		p.m = &model{d: loadedWith(t, capacity+len(b.bytes()), l), based: 8192, base: newState(next, lastXid-1), behind: map[int]*state{}}
	}
	return p
}

// open opens both anew; false, if there is no store, which both say.
func (p *pair) open() bool {
	p.t.Helper()
	s, e := store.Open(p.d)
	want := p.m.reopen()
	p.note("Open: %d", e)
	if e != want || (s != nil) != (e == api.OK) {
		p.fail("Open", e, want)
	}
	p.sameDisks()
	p.s = s
	return s != nil
}

func (p *pair) sameDisks() {
	p.t.Helper()
	a, b := p.d, p.m.d
	if !slices.Equal(a.List(), b.List()) || a.Dead() != b.Dead() || a.Free() != b.Free() || !slices.Equal(a.Files(), b.Files()) {
		p.fail("the disk", fmt.Sprintf("%q", a.Files()), fmt.Sprintf("%q", b.Files()))
	}
	for _, name := range a.List() {
		if a.Pending(name) != b.Pending(name) {
			p.fail("pending of "+name, a.Pending(name), b.Pending(name))
		}
	}
	if !a.Dead() && !slices.Equal(bytesOf(p.t, a), bytesOf(p.t, b)) {
		p.fail("the bytes", fmt.Sprintf("%q", bytesOf(p.t, a)), fmt.Sprintf("%q", bytesOf(p.t, b)))
	}
}

// sameLists holds all that a store tells against the model.
func (p *pair) sameLists() {
	p.t.Helper()
	m := p.m
	var active []int
	var names []string
	lives := []*life{nil}
	for _, l := range m.open {
		if l.name == "" {
			active = append(active, l.xid)
			lives = append(lives, l)
		} else {
			names = append(names, l.name)
		}
	}
	slices.Sort(names)
	tables, based := m.tables, m.based
	if m.doubt {
		active, names, tables, based, lives = nil, nil, nil, 0, []*life{nil}
	}
	got := fmt.Sprint(p.s.Doubt(), p.s.Active(), p.s.Prepared(), p.s.Tables(), p.s.Based())
	if want := fmt.Sprint(m.doubt, active, names, tables, based); got != want {
		p.fail("Doubt, Active, Prepared, Tables, Based", got, want)
	}
	for _, name := range []string{"a", "pub", "", "none"} {
		want := m.origins[name]
		if m.doubt {
			want = 0
		}
		if got := p.s.Origin(name); got != want {
			p.fail("Origin of "+name, got, want)
		}
	}
	for _, l := range lives {
		p.sameRows(l)
	}
}

// sameRows holds what somebody sees of all tables against the model, by Scan, and by Get of some keys.
func (p *pair) sameRows(l *life) {
	p.t.Helper()
	x := 0
	if l != nil {
		x = l.xid
	}
	for _, name := range tableNames {
		want := ""
		at, is := p.m.table(name)
		if is && !p.m.doubt {
			for _, key := range p.m.keys(l, p.m.tables[at]) {
				want += rowText(p.m.view(l, p.m.tables[at], key)) + " "
			}
		}
		got := ""
		for row := range p.s.Scan(x, name) {
			got += rowText(row) + " "
		}
		if got != want {
			p.fail(fmt.Sprintf("Scan(%d, %q)", x, name), got, want)
		}
	}
}

// Names, some of which are none; keys.
var (
	tableNames = []string{"t", "u", "w"}
	someNames  = []string{"a", "a", "b", "b", "c", "pub", "", "A"}
)

func pick[T any](r *rand.Rand, l []T) T { return l[r.Intn(len(l))] }

// number is mostly that of an active transaction.
func (p *pair) number() int {
	if len(p.m.open) > 0 && p.r.Intn(15) > 0 {
		for range 4 {
			if l := pick(p.r, p.m.open); l.name == "" {
				return l.xid
			}
		}
	}
	return pick(p.r, []int{0, -1, 1, p.m.next - 1, p.m.next, lastXid})
}

// name is one of a few; of those that wait mostly one of theirs.
func (p *pair) name(waits bool) string {
	if waits && p.r.Intn(3) > 0 {
		for _, l := range p.m.open {
			if l.name != "" {
				return l.name
			}
		}
	}
	return pick(p.r, someNames)
}

func (p *pair) tableName() string {
	if p.r.Intn(20) == 0 {
		return pick(p.r, []string{"none", "", "T"})
	}
	return pick(p.r, tableNames)
}

func (p *pair) text() string {
	if p.long {
		return strings.Repeat("y", p.r.Intn(201))
	}
	return pick(p.r, []string{"", "x", "yy", "z\x00"})
}

// key is mostly one that fits: the tables t and w have Ints, u Texts.
func (p *pair) key(name string) api.Value {
	if p.r.Intn(15) == 0 {
		return pick(p.r, []api.Value{{}, v(true), v("q"), v(3), {Kind: 7}})
	}
	if name == "u" {
		return v(pick(p.r, []string{"a", "b", "", "\xff"}))
	}
	return v(p.r.Intn(4) - 1)
}

// row is mostly one that fits, of as many values as it may have, or fewer.
func (p *pair) row(name string) api.Row {
	row := api.Row{p.key(name), v(p.text()), v(p.r.Intn(2) == 0), v(p.text())}
	if p.r.Intn(4) == 0 {
		row[1] = v(nil)
	}
	n := 4
	if at, is := p.m.table(name); is {
		n = len(p.m.tables[at].Columns)
	}
	n = max(0, min(4, n-p.r.Intn(2)+p.r.Intn(12)/11))
	return row[:n]
}

// asks asks both the same, and holds all that they tell and do against each other.
func (p *pair) asks(what string, s, m func() (int, api.Errno)) {
	p.t.Helper()
	n, e := s()
	wantN, wantE := p.m.does(m)
	p.note("%s: %d, %d", what, n, e)
	if n != wantN || e != wantE {
		p.fail(what, fmt.Sprint(n, " ", e), fmt.Sprint(wantN, " ", wantE))
	}
	p.came[strings.SplitN(what, "(", 2)[0]+fmt.Sprint(" ", int(e))]++
	p.sameDisks()
	p.sameLists()
}

// row writes and reads.
func (p *pair) rowStep() {
	x, name := p.number(), p.tableName()
	row, key := p.row(name), p.key(name)
	switch p.r.Intn(5) {
	case 0, 1:
		p.asks(fmt.Sprintf("Insert(%d, %q, %s)", x, name, rowText(row)),
			func() (int, api.Errno) { return 0, p.s.Insert(x, name, row) },
			func() (int, api.Errno) { return p.m.change(api.RecInsert, x, name, row, api.Value{}) })
	case 2:
		p.asks(fmt.Sprintf("Update(%d, %q, %s)", x, name, rowText(row)),
			func() (int, api.Errno) { return 0, p.s.Update(x, name, row) },
			func() (int, api.Errno) { return p.m.change(api.RecUpdate, x, name, row, api.Value{}) })
	case 3:
		p.asks(fmt.Sprintf("Delete(%d, %q, %v)", x, name, key),
			func() (int, api.Errno) { return 0, p.s.Delete(x, name, key) },
			func() (int, api.Errno) { return p.m.change(api.RecDelete, x, name, nil, key) })
	case 4:
		p.get(x, name, key)
	}
}

// get is the one call that tells a row.
func (p *pair) get(x int, name string, key api.Value) {
	var got, want api.Row
	p.asks(fmt.Sprintf("Get(%d, %q, %v)", x, name, key), func() (int, api.Errno) {
		row, e := p.s.Get(x, name, key)
		got = row
		return 0, e
	}, func() (int, api.Errno) {
		l := p.m.active(x)
		if x != 0 && l == nil {
			return 0, api.ErrStoreNone
		}
		at, is := p.m.table(name)
		if !is {
			return 0, api.ErrTableNone
		}
		t := p.m.tables[at]
		c := t.Columns[t.Key]
		if key.Kind != c.Kind {
			return 0, api.ErrRowFit
		}
		want = p.m.view(l, t, printed(key))
		if want == nil {
			return 0, api.ErrRowNone
		}
		return 0, api.OK
	})
	if rowText(got) != rowText(want) {
		p.fail("Get", rowText(got), rowText(want))
	}
}

func (p *pair) partStep() {
	x, name := p.number(), pick(p.r, someNames)
	if l := p.m.active(x); l != nil && len(l.points) > 0 && p.r.Intn(3) > 0 {
		name = pick(p.r, l.points).name
	}
	switch p.r.Intn(3) {
	case 0:
		p.asks(fmt.Sprintf("Savepoint(%d, %q)", x, name), func() (int, api.Errno) { return 0, p.s.Savepoint(x, name) }, func() (int, api.Errno) { return p.m.savepoint(x, name) })
	case 1:
		p.asks(fmt.Sprintf("RollbackTo(%d, %q)", x, name), func() (int, api.Errno) { return 0, p.s.RollbackTo(x, name) }, func() (int, api.Errno) { return p.m.endPoint(x, name, true) })
	case 2:
		p.asks(fmt.Sprintf("Release(%d, %q)", x, name), func() (int, api.Errno) { return 0, p.s.Release(x, name) }, func() (int, api.Errno) { return p.m.endPoint(x, name, false) })
	}
}

func (p *pair) endStep() {
	n := p.r.Intn(7)
	x, name := p.number(), p.name(n > 4)
	switch n {
	case 0, 1:
		p.asks(fmt.Sprintf("Commit(%d)", x), func() (int, api.Errno) { return p.s.Commit(x) }, func() (int, api.Errno) { return p.m.commitFrom(x, "", 0) })
	case 2:
		lsn := pick(p.r, []int{1, 8192, 9000, lastPosition, 0, lastPosition + 1})
		p.asks(fmt.Sprintf("CommitFrom(%d, %q, %d)", x, name, lsn), func() (int, api.Errno) { return p.s.CommitFrom(x, name, lsn) }, func() (int, api.Errno) { return p.m.commitFrom(x, name, lsn) })
	case 3:
		p.asks(fmt.Sprintf("Abort(%d)", x), func() (int, api.Errno) { return 0, p.s.Abort(x) }, func() (int, api.Errno) { return p.m.abort(x) })
	case 4:
		p.asks(fmt.Sprintf("Prepare(%d, %q)", x, name), func() (int, api.Errno) { return 0, p.s.Prepare(x, name) }, func() (int, api.Errno) { return p.m.prepare(x, name) })
	case 5:
		p.asks(fmt.Sprintf("CommitPrepared(%q)", name), func() (int, api.Errno) { return p.s.CommitPrepared(name) }, func() (int, api.Errno) { return p.m.endPrepared(name, true) })
	case 6:
		p.asks(fmt.Sprintf("AbortPrepared(%q)", name), func() (int, api.Errno) { return 0, p.s.AbortPrepared(name) }, func() (int, api.Errno) { return p.m.endPrepared(name, false) })
	}
}

// columnsOf are those with which the tests make a table: u has a Text as its key, the others an Int.
func columnsOf(name string) []api.Column {
	if name == "u" {
		return []api.Column{{Name: "k", Kind: api.Text}, {Name: "x", Kind: api.Text, Null: true}, {Name: "y", Kind: api.Bool, Null: true}}
	}
	return two
}

func (p *pair) create(name string, key int) {
	p.asks(fmt.Sprintf("CreateTable(%q, %d)", name, key), func() (int, api.Errno) { return p.s.CreateTable(name, columnsOf(name), key) }, func() (int, api.Errno) { return p.m.create(name, columnsOf(name), key) })
}

func (p *pair) tableStep() {
	name := p.tableName()
	c := pick(p.r, []api.Column{more, {Name: "last", Kind: api.Text, Null: true}, {Name: "id", Kind: api.Int, Null: true}, {Name: "no", Kind: api.Int}})
	switch p.r.Intn(6) {
	case 0, 1, 2:
		p.create(name, p.r.Intn(12)/11)
	case 3:
		p.asks(fmt.Sprintf("DropTable(%q)", name), func() (int, api.Errno) { return p.s.DropTable(name) }, func() (int, api.Errno) { return p.m.changeTable(api.RecDrop, name, c) })
	case 4:
		p.asks(fmt.Sprintf("WidenTable(%q, %v)", name, c), func() (int, api.Errno) { return p.s.WidenTable(name, c) }, func() (int, api.Errno) { return p.m.changeTable(api.RecWiden, name, c) })
	case 5:
		p.asks(fmt.Sprintf("EmptyTable(%q)", name), func() (int, api.Errno) { return p.s.EmptyTable(name) }, func() (int, api.Errno) { return p.m.changeTable(api.RecEmpty, name, c) })
	}
}

func (p *pair) baseStep() {
	if p.r.Intn(3) > 0 {
		p.asks("Checkpoint()", p.s.Checkpoint, p.m.checkpoint)
		return
	}
	lsn := pick(p.r, []int{-1, 0, p.m.log.First() + 8192, p.m.log.End(), lastPosition})
	p.asks(fmt.Sprintf("Trim(%d)", lsn), func() (int, api.Errno) { return p.s.Trim(lsn) }, func() (int, api.Errno) { return p.m.trim(lsn) })
}

// hurt does something to both disks.
func (p *pair) hurt() {
	n := 1 + p.r.Intn(8)
	if p.r.Intn(2) == 0 {
		p.note("Arm(%d)", n)
		p.d.Arm(n)
		p.m.d.Arm(n)
	} else {
		n = 1 + n/3
		p.note("FailSync(%d)", n)
		p.d.FailSync(n)
		p.m.d.FailSync(n)
	}
}

// crash keeps of both disks the same of what was pending.
func (p *pair) crash() {
	var l []api.Keep
	for _, name := range p.d.List() {
		if n := p.d.Pending(name); n > 0 {
			l = append(l, api.Keep{Name: name, Bytes: pick(p.r, []int{0, n, p.r.Intn(n + 1)})})
		}
	}
	p.note("Crash(%v)", l)
	if p.d.Crash(l) != api.OK || p.m.d.Crash(l) != api.OK {
		p.fail("Crash", l, "another")
	}
}

func (p *pair) step() {
	p.t.Helper()
	switch n := p.r.Intn(100); {
	case n < 13 || len(p.m.open) == 0 && n < 60:
		p.asks("Begin()", p.s.Begin, p.m.begin)
	case n < 60:
		p.rowStep()
	case n < 73:
		p.partStep()
	case n < 88:
		p.endStep()
	case n < 92:
		p.tableStep()
	case n < 98:
		p.baseStep()
	default:
		p.hurt()
	}
}

// live plays a life of so many steps; where the store is in doubt, and sometimes else, it is opened anew, behind a crash or not.
func (p *pair) live(steps int) {
	p.t.Helper()
	if !p.open() {
		return
	}
	for _, name := range tableNames {
		p.create(name, 0)
	}
	for range steps {
		p.step()
		if p.m.doubt && p.r.Intn(3) == 0 || p.r.Intn(60) == 0 {
			if p.d.Dead() || p.r.Intn(2) == 0 {
				p.crash()
			}
			p.came["opened"]++
			if !p.open() && !p.open() { // of a disk that died in it, or had no room
				p.crash()
				if !p.open() {
					p.came["no store"]++
					return
				}
			}
			p.sameLists()
		}
	}
}

func TestModel(t *testing.T) {
	came := map[string]int{}
	for seed := range int64(400) {
		capacity := pick(rand.New(rand.NewSource(seed)), []int{room, room, room, 60000, 3000, 1500, 700})
		newPair(t, seed, capacity, came).live(150)
	}
	for _, want := range []string{
		"Begin 0", "Begin 2", "Begin 73", "Begin 100", "Insert 0", "Insert 2", "Insert 52", "Insert 57", "Insert 91", "Insert 92", "Insert 100", "Insert 101",
		"Update 0", "Update 57", "Update 90", "Update 92", "Delete 0", "Delete 57", "Delete 90", "Delete 92", "Get 0", "Get 57", "Get 90", "Get 101", "Get 100",
		"Savepoint 0", "Savepoint 1", "Savepoint 101", "Savepoint 73", "RollbackTo 0", "RollbackTo 102", "Release 0", "Release 102",
		"Commit 0", "Commit 2", "Commit 100", "Commit 101", "CommitFrom 0", "CommitFrom 1", "Abort 0", "Prepare 0", "Prepare 103", "CommitPrepared 0", "CommitPrepared 102", "AbortPrepared 0",
		"CreateTable 0", "CreateTable 51", "CreateTable 53", "CreateTable 73", "DropTable 0", "DropTable 107", "WidenTable 0", "WidenTable 1", "WidenTable 54", "WidenTable 107", "EmptyTable 0", "EmptyTable 107",
		"Checkpoint 0", "Checkpoint 2", "Checkpoint 100", "Checkpoint 104", "Trim 0", "opened", "no store",
	} {
		if came[want] == 0 {
			t.Errorf("in all lives there was no %q", want)
		}
	}
	if testing.Verbose() {
		t.Log(came)
	}
}

// TestModelMany: lives in which much is begun and little ended, so that the bounds are met.
func TestModelMany(t *testing.T) {
	came := map[string]int{}
	for seed := range int64(30) {
		p := newPair(t, 1000+seed, room, came)
		if !p.open() {
			t.Fatal("no store")
		}
		for range 250 {
			switch n := p.r.Intn(100); {
			case n < 35:
				p.asks("Begin()", p.s.Begin, p.m.begin)
			case n < 75:
				p.partStep()
				x := 0
				if len(p.m.open) > 0 {
					x = p.m.open[0].xid
				}
				p.asks(fmt.Sprintf("Savepoint(%d, a)", x), func() (int, api.Errno) { return 0, p.s.Savepoint(x, "a") }, func() (int, api.Errno) { return p.m.savepoint(x, "a") })
				p.asks(fmt.Sprintf("RollbackTo(%d, a)", x), func() (int, api.Errno) { return 0, p.s.RollbackTo(x, "a") }, func() (int, api.Errno) { return p.m.endPoint(x, "a", true) })
			case n < 80:
				p.tableStep()
			case n < 98:
				p.rowStep()
			default:
				p.crash()
				if !p.open() {
					t.Fatal("no store")
				}
			}
		}
	}
	for _, want := range []string{"Begin 108", "Savepoint 106", "Savepoint 72", "RollbackTo 72", "RollbackTo 73", "CreateTable 0"} {
		if came[want] == 0 {
			t.Errorf("in all lives there was no %q", want)
		}
	}
	if testing.Verbose() {
		t.Log(came)
	}
}
