package copying_test

import (
	"fmt"
	"slices"
	"strings"
	"testing"

	"confluence/api"
	"confluence/apply"
	"confluence/copying"
	"confluence/decode"
	"confluence/publish"
	"confluence/record"
)

// moment is what there was, as the publication wants it, behind a commit at this position.
type moment struct {
	at   int
	fold string
}

// publisher is a store with sessions, and its history.
type publisher struct {
	*desk
	g        gen
	p        api.Publication
	sessions []int
	history  []moment
	places   []int // of checkpoints
	copies   []firstCopy
	came     map[string]int
}

// firstCopy is one that was told: where, and how many moments there had been.
type firstCopy struct {
	lsn      int
	messages []string
	restart  int
	moments  int
}

// publications are some, with a subscriber's tables for each.
func publications() []api.Publication {
	return []api.Publication{
		all("t", "u", "v"),
		pub(some("v", ""), some("t", "n is null or n < 3"), some("u", "", "n")),
		pub(some("u", "secret <> 's' and n > 0", "n"), some("none", "")),
		pub(some("t", "", "name"), some("v", "10 / n > 2")),
	}
}

func newPublisher(t *testing.T, g gen, came map[string]int) *publisher {
	t.Helper()
	p := &publisher{desk: bare(t), g: g, p: pick(g, publications()...), came: came, places: []int{first}}
	p.create("t", 0, "id i", "name t?", "n i?")
	p.create("u", 0, "id i", "n i?", "secret t?")
	p.create("v", 1, "n i?", "id t")
	p.notes(p.s.Log().Flushed() - 1)
	return p
}

// first is where a log begins, with its first checkpoint.
const first = api.SegmentSize

// notes what there is behind a commit at a position.
func (p *publisher) notes(at int) {
	p.history = append(p.history, moment{at, p.wanted()})
}

// wanted is what is committed, as the publication wants it: what k1 has of it but for positions.
func (p *publisher) wanted() string {
	p.t.Helper()
	l, _, e := k1(p.d, p.s, p.p)
	p.ok(e)
	var tables []api.Table
	var out []string
	for _, m := range l {
		switch m.Kind {
		case api.MsgTable:
			tables = append(tables, m.Tab)
		case api.MsgInsert:
			t := tables[len(tables)-1]
			out = append(out, t.Name+named(t.Columns, m.New))
		}
	}
	slices.Sort(out)
	return strings.Join(out, " ")
}

// named is a row as values by the names of its columns; what is null is left out.
func named(columns []api.Column, row api.Row) string {
	var l []string
	for i, c := range columns {
		if row[i].Kind != api.Null {
			l = append(l, c.Name+" "+rowText(row[i:i+1]))
		}
	}
	slices.Sort(l)
	return "{" + strings.Join(l, ", ") + "}"
}

// end ends a session that is over.
func (p *publisher) end(at int) { p.sessions = slices.Delete(p.sessions, at, at+1) }

// answered notes a commit, if it was answered OK.
func (p *publisher) answered(at int, e api.Errno) {
	if e == api.OK {
		p.notes(at)
	}
}

// works is a step of some session: they write between one another, set savepoints and go back to them.
func (p *publisher) works() {
	p.t.Helper()
	if len(p.sessions) < 3 {
		if x, e := p.s.Begin(); e == api.OK {
			p.sessions = append(p.sessions, x)
		}
	}
	if len(p.sessions) == 0 {
		return
	}
	at := p.g.Intn(len(p.sessions))
	x := p.sessions[at]
	id, n := p.g.Intn(8), p.g.Intn(5)
	switch p.g.Intn(20) {
	case 0, 1:
		p.answered(p.s.Commit(x))
		p.end(at)
	case 2:
		p.s.Abort(x)
		p.end(at)
	case 3:
		p.s.Savepoint(x, "a")
	case 4:
		p.s.RollbackTo(x, "a")
	case 5:
		p.s.Release(x, "a")
	case 6:
		p.seldom(x, at)
	case 7, 8:
		p.s.Delete(x, pick(p.g, "t", "u"), v(id))
	case 9, 10:
		p.s.Insert(x, "t", r(id, pick(p.g, "a", "b"), n))
	case 11, 12:
		p.s.Update(x, "t", r(id, pick(p.g, "a", "b", ""), n))
	case 13:
		p.s.Insert(x, "u", r(id, n, "s"))
	case 14:
		p.s.Delete(x, "v", v(fmt.Sprint(id)))
	case 15, 16:
		p.s.Insert(x, "v", r(n, fmt.Sprint(id)))
	case 17:
		p.s.Update(x, "v", r(n, fmt.Sprint(id)))
	default:
		p.s.Update(x, "u", r(id, n, pick(p.g, "s", "z")))
	}
}

// seldom is what happens now and then.
func (p *publisher) seldom(x, at int) {
	switch p.g.Intn(8) {
	case 0:
		p.answered(p.s.EmptyTable(pick(p.g, "t", "u", "v")))
	case 1:
		p.answered(p.s.WidenTable(pick(p.g, "t", "v"), columns("more t?")[0]))
	case 2:
		if p.s.Prepare(x, "w") == api.OK {
			p.end(at)
		}
	case 3, 4:
		p.answered(p.s.CommitPrepared("w"))
	case 5:
		p.s.AbortPrepared("w")
	case 6:
		p.checkpoints()
	case 7:
		if p.g.once(4) {
			for i := range 20 { // a great one
				p.s.Insert(x, "t", r(100+i, full, i%5))
			}
		}
	}
}

// crash loses some of what does not last. A commit that was in doubt is noted, if it is there.
func (p *publisher) crash() {
	p.t.Helper()
	p.crashKeeping(p.g.Intn(11))
	p.sessions = nil
	p.came["crash"]++
	for at, payload := range p.s.Log().Scan(first) {
		x, _ := record.Decode(payload)
		switch x.Kind {
		case api.RecCommit, api.RecEmpty, api.RecWiden:
			if at > p.history[len(p.history)-1].at {
				p.came["there all the same"]++
				p.notes(at)
			}
		}
	}
	if p.g.once(2) {
		p.checkpoints()
	}
}

// checkpoints lets the log be read from here, if nothing is open and nothing waits.
func (p *publisher) checkpoints() {
	if at, e := p.s.Checkpoint(); e == api.OK {
		p.places = append(p.places, at)
	}
}

// behind is the place behind the record at a position.
func (p *publisher) behind(at int) int {
	p.t.Helper()
	payload, _, e := p.s.Log().Read(at)
	p.ok(e)
	return at + api.FrameHead + len(payload)
}

// copied tells a first copy, and holds it against the fold of what is committed.
func (p *publisher) copied() {
	p.t.Helper()
	l, lsn, e := copying.Export(p.s, p.p)
	p.ok(e)
	now := p.history[len(p.history)-1]
	if got := foldOf(l); got != now.fold {
		p.t.Errorf("what is told: %s, want %s", got, now.fold)
	}
	for _, m := range p.history[1:] { // the first one is no commit's
		if p.behind(m.at) > lsn {
			p.t.Errorf("a commit at %d ends behind %d", m.at, lsn)
		}
	}
	restart := first
	for _, at := range p.places {
		if at <= lsn && p.g.once(2) {
			restart = at
		}
	}
	p.copies = append(p.copies, firstCopy{lsn, l, restart, len(p.history)})
}

// foldOf is the fold of a copy.
func foldOf(messages []string) string {
	c, _ := copyByWords(messages)
	var out []string
	for _, x := range c.tables {
		for _, row := range x.rows {
			out = append(out, x.tab.Name+named(x.tab.Columns, row))
		}
	}
	slices.Sort(out)
	return strings.Join(out, " ")
}

// story lets sessions work, with first copies between, and crashes.
func (p *publisher) story(steps int) {
	p.t.Helper()
	for range steps {
		p.works()
		if !p.s.Doubt() && p.g.once(60) {
			p.copied()
		}
		switch {
		case p.g.once(150):
			p.d.Arm(1 + p.g.Intn(6))
		case p.g.once(150):
			p.d.FailSync(1 + p.g.Intn(2))
		}
		if p.s.Doubt() || p.g.once(200) {
			p.crash()
		}
	}
	p.crash()
	p.copied()
	for _, x := range p.copies {
		for _, m := range p.history[x.moments:] {
			if m.at < x.lsn || p.behind(m.at) <= x.lsn {
				p.t.Errorf("a commit at %d, behind the copy of %d", m.at, x.lsn)
			}
		}
	}
}

// subscriber is a store that takes a first copy, and then what is told.
type subscriber struct {
	*desk
	g    gen
	from *publisher
	x    firstCopy
	a    *apply.Applier
}

func newSubscriber(t *testing.T, p *publisher, x firstCopy) *subscriber {
	t.Helper()
	k := bare(t)
	k.create("t", 2, "more t?", "n i?", "id i", "name t?")
	k.create("v", 0, "id t", "other b?", "n i?", "more t?")
	k.create("u", 0, "id i", "n i?", "secret t?")
	return &subscriber{desk: k, g: p.g, from: p, x: x}
}

// has is what a subscriber has, in the words of folds.
func (x *subscriber) has() string {
	var out []string
	for _, t := range x.s.Tables() {
		for row := range x.s.Scan(0, t.Name) {
			out = append(out, t.Name+named(t.Columns, row))
		}
	}
	slices.Sort(out)
	return strings.Join(out, " ")
}

// imports takes the copy, though the disk dies now and then.
func (x *subscriber) imports() {
	x.t.Helper()
	for {
		switch x.g.Intn(3) {
		case 0:
			x.ok(x.d.Arm(1 + x.g.Intn(10)))
		case 1:
			x.ok(x.d.FailSync(1))
		}
		n, e := copying.Import(x.s, "pub", x.x.messages)
		if e == api.OK {
			x.is("how many rows", n, strings.Count(x.from.history[x.x.moments-1].fold, "{"))
			break
		}
		x.from.came["an import in doubt"]++
		x.crashKeeping(pick(x.g, 0, 5, 10))
		if x.s.Origin("pub") == x.x.lsn {
			break
		}
		x.is("what is there of it", x.has(), "")
	}
	x.reopens()
	x.is("the origin", x.s.Origin("pub"), x.x.lsn)
	x.is("what is there behind it", x.has(), x.from.history[x.x.moments-1].fold)
}

// reopens lets the subscriber die and live again.
func (x *subscriber) reopens() {
	x.t.Helper()
	x.crashKeeping(x.g.Intn(11))
	a, e := apply.New(x.s, "pub")
	x.ok(e)
	x.a = a
}

// fold is what there was behind the last commit ahead of a position.
func (p *publisher) fold(ahead int) string {
	i, _ := slices.BinarySearchFunc(p.history, ahead, func(m moment, at int) int { return m.at - at })
	return p.history[i-1].fold
}

// reads is a decoder of a slot that has confirmed so much.
func (x *subscriber) reads(confirmed int) *decode.Decoder {
	x.t.Helper()
	d, e := decode.Open(x.from.s.Log(), x.from.d, api.Slot{Name: "a", Publication: x.from.p, Confirmed: confirmed, Restart: x.x.restart}, pick(x.g, 0, 100, 100000))
	x.ok(e)
	return d
}

// follows applies what a decoder tells, from the copy on, though it dies now and then; at each moment there is the fold of a beginning.
func (x *subscriber) follows() {
	x.t.Helper()
	confirmed := x.x.lsn
	d := x.reads(confirmed)
	deaths := 5
	for {
		l, e := d.Step()
		if e == api.ErrDecodeEnd {
			break
		}
		x.ok(e)
		if len(l) > 0 && deaths > 0 && x.g.once(10) {
			x.ok(x.d.Arm(1 + x.g.Intn(10)))
		}
		for _, m := range l {
			if e := x.a.Take(m); e != api.OK {
				x.is("in doubt", x.s.Doubt(), true)
				break
			}
			x.stays()
			x.from.came["taken"]++
		}
		if x.s.Doubt() || len(l) > 0 && deaths > 0 && x.g.once(20) {
			deaths--
			x.from.came["a subscriber's death"]++
			x.reopens()
			confirmed = max(confirmed, x.a.Progress())
			d = x.reads(confirmed)
			x.stays()
		}
	}
	x.reopens()
	x.is("what is there in the end", x.has(), x.from.wanted())
}

// stays: what is there is the fold of what ended at or below Progress.
func (x *subscriber) stays() {
	x.t.Helper()
	if want := x.from.fold(x.a.Progress()); x.has() != want {
		x.t.Errorf("behind %d there is %s, want %s", x.a.Progress(), x.has(), want)
	}
}

// TestK3: histories of several sessions, crashed and opened again, with a first copy taken at many places; each is taken
// by a subscriber, which then applies what is told from there on.
func TestK3(t *testing.T) {
	came := map[string]int{}
	for seed := range 25 {
		p := newPublisher(t, seeded(2330+seed), came)
		p.story(500)
		for _, x := range p.copies {
			came["copies"]++
			if x.restart > first {
				came["from a later checkpoint"]++
			}
			y := newSubscriber(t, p, x)
			y.imports()
			y.follows()
		}
	}
	for what, least := range map[string]int{"copies": 200, "from a later checkpoint": 50, "crash": 200, "there all the same": 5, "an import in doubt": 150, "a subscriber's death": 200, "taken": 5000} {
		if came[what] < least {
			t.Errorf("%s came only %d times", what, came[what])
		}
	}
}

// TestK3AtTurn: a log whose last commit ends at each place ahead of a segment's end, and goes on in the next one:
// what the copy has is not told again, and all else is.
func TestK3AtTurn(t *testing.T) {
	came, turned := 0, 0
	for n := range len(full) {
		p := newDesk(t)
		for i := range 33 {
			p.put("t", r(i, full))
		}
		p.put("t", r(100))
		p.put("t", r(101))
		p.put("t", r(102, full[:n]))
		_, lsn, e := copying.Export(p.s, all("t"))
		p.ok(e)
		if lsn > 16384 {
			break
		}
		came++
		x := newDesk(t)
		x.imports(36, decoded(t, p.exports(all("t"), "from t.1.1(id*, name) "+rowsText(p)+" to"))...)
		if p.put("t", r(200, "b")); p.s.Log().End() > 16384 && lsn < 16384 {
			turned++
		}
		p.put("t", r(201, "b"))
		a, e := apply.New(x.s, "pub")
		x.ok(e)
		d, e := decode.Open(p.s.Log(), p.d, api.Slot{Name: "a", Publication: all("t"), Confirmed: lsn, Restart: first}, 1000)
		p.ok(e)
		for e == api.OK {
			var l []string
			l, e = d.Step()
			if len(l) > 0 && decoded(t, l)[0].Lsn < lsn {
				t.Errorf("a transaction at %d is told again, behind the copy of %d", decoded(t, l)[0].Lsn, lsn)
			}
			for _, m := range l {
				x.ok(a.Take(m))
			}
		}
		p.is("where the log is read", e, api.ErrDecodeEnd)
		x.has("t", p.rows("t"))
		x.is("how many were applied", a.Tally(), api.Tally{Whole: 2, Inserted: 2})
	}
	if came < 100 || turned < 20 {
		t.Errorf("of %d logs %d turned there", came, turned)
	}
}

// rowsText are the rows of t, as words tells them.
func rowsText(k *desk) string {
	var l []string
	for row := range k.s.Scan(0, "t") {
		l = append(l, "1"+rowText(row))
	}
	return strings.Join(l, " ")
}

// decoded are messages out of their bytes.
func decoded(t *testing.T, l []string) []api.Message {
	t.Helper()
	var out []api.Message
	for _, s := range l {
		m, e := publish.Decode(s)
		if e != api.OK {
			t.Fatalf("Decode(%x): %d", s, e)
		}
		out = append(out, m)
	}
	return out
}
