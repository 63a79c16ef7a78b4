package apply_test

import (
	"fmt"
	"slices"
	"testing"

	"confluence/api"
	"confluence/decode"
	"confluence/files"
	"confluence/link"
	"confluence/publish"
	"confluence/store"
)

// publisher is a store that is told: its disk, sessions that are open, a slot with its decoder and the sender of a line.
type publisher struct {
	t        *testing.T
	g        gen
	d        *files.Disk
	s        *store.Store
	sessions []int
	slot     api.Slot
	decoder  *decode.Decoder
	sender   *link.Sender
}

func newPublisher(t *testing.T, g gen) *publisher {
	t.Helper()
	k := bare(t)
	k.create("t", 0, "id i", "name t?", "n i?")
	k.create("u", 0, "id i", "n i?", "secret t?")
	p := &publisher{t: t, g: g, d: k.d, s: k.s}
	p.slot = api.Slot{Name: "a", Confirmed: 8192, Restart: 8192, Publication: api.Publication{Name: "p", Tables: []api.Published{{Table: "t", Kinds: 15, Filter: "n is null or n < 3"}, {Table: "u", Kinds: 15, Columns: []string{"n"}}}}}
	p.opens()
	return p
}

// opens makes a decoder and a sender for the slot as it is.
func (p *publisher) opens() {
	p.t.Helper()
	x, e := decode.Open(p.s.Log(), p.d, p.slot, 100)
	if e != api.OK {
		p.t.Fatalf("decode.Open: %d", e)
	}
	y, e := link.NewSender(p.slot.Confirmed)
	if e != api.OK {
		p.t.Fatalf("NewSender: %d", e)
	}
	p.decoder, p.sender = x, y
}

// crash lets the publisher die and live again; its sessions are gone.
func (p *publisher) crash() {
	p.t.Helper()
	e := p.d.Crash(pending(p.d, p.g.Intn(11)))
	s, f := store.Open(p.d)
	if e != api.OK || f != api.OK {
		p.t.Fatalf("a crash: %d, %d", e, f)
	}
	p.s, p.sessions = s, nil
	p.opens()
}

// works is a step of some session: they write between one another, set savepoints and go back to them.
func (p *publisher) works() {
	p.t.Helper()
	if len(p.sessions) < 3 {
		x, e := p.s.Begin()
		if e != api.OK {
			p.t.Fatalf("Begin: %d", e)
		}
		p.sessions = append(p.sessions, x)
	}
	at := p.g.Intn(len(p.sessions))
	x := p.sessions[at]
	id, n := p.g.Intn(8), p.g.Intn(5)
	switch p.g.Intn(16) {
	case 0, 1:
		p.s.Commit(x)
		p.sessions = slices.Delete(p.sessions, at, at+1)
	case 2:
		p.s.Abort(x)
		p.sessions = slices.Delete(p.sessions, at, at+1)
	case 3:
		p.s.Savepoint(x, "a")
	case 4:
		p.s.RollbackTo(x, "a")
	case 5:
		p.s.Release(x, "a")
	case 6:
		if p.g.once(4) {
			p.s.EmptyTable(pick(p.g, "t", "u"))
		}
	case 7, 8:
		p.s.Delete(x, pick(p.g, "t", "u"), v(id))
	case 9, 10:
		p.s.Insert(x, "t", r(id, pick(p.g, "a", "b"), n))
	case 11, 12:
		p.s.Update(x, "t", r(id, pick(p.g, "a", "b"), n))
	case 13:
		p.s.Insert(x, "u", r(id, n, "s"))
	default:
		p.s.Update(x, "u", r(id, n, pick(p.g, "s", "z")))
	}
}

// reads puts into the line what the log tells, up to its end.
func (p *publisher) reads(most int) {
	p.t.Helper()
	for range most {
		l, e := p.decoder.Step()
		if e == api.ErrDecodeEnd || p.sender.Left() > 30 {
			return
		}
		if e != api.OK {
			p.t.Fatalf("Step: %d", e)
		}
		if len(l) == 0 {
			continue
		}
		m, _ := publish.Decode(l[len(l)-1])
		if e := p.sender.Put(m.End, l); e != api.OK {
			p.t.Fatalf("Put: %d", e)
		}
	}
}

// confirms takes a word, and notes in the slot what it confirms.
func (p *publisher) confirms(word string) {
	p.t.Helper()
	n, e := p.sender.Word(word)
	if e != api.OK {
		p.t.Fatalf("Word: %d", e)
	}
	if n > p.slot.Confirmed {
		p.slot.Confirmed, p.slot.Restart = n, p.decoder.Restart(n)
	}
}

// wanted is what is committed, as the publication wants it.
func (p *publisher) wanted() string {
	out := ""
	for row := range p.s.Scan(0, "t") {
		if row[2] == null || row[2].N < 3 {
			out += "t" + rowText(row)
		}
	}
	for row := range p.s.Scan(0, "u") {
		out += "u" + rowText(row[:2])
	}
	return out
}

// subscriber has a receiver ahead of its applier.
type subscriber struct {
	*desk
	receiver *link.Receiver
}

func newSubscriber(t *testing.T) *subscriber {
	t.Helper()
	k := bare(t)
	k.create("t", 2, "n i?", "name t?", "id i")
	k.create("u", 0, "id i", "n i?")
	x := &subscriber{desk: k}
	x.opens()
	return x
}

func (x *subscriber) opens() {
	x.t.Helper()
	e := api.OK
	x.receiver, e = link.NewReceiver(max(x.a.Progress(), 8192))
	x.ok(e)
}

// frame comes; what is refused of the messages that it makes is one of a store that died.
func (x *subscriber) frame(f string) {
	x.t.Helper()
	l, _, _ := x.receiver.Take(f)
	for _, m := range l {
		if e := x.a.Take(m); e != api.OK {
			x.is("in doubt", x.s.Doubt(), true)
			x.reopens()
			return
		}
	}
	x.ok(x.receiver.Done(x.a.Progress()))
}

func (x *subscriber) reopens() {
	x.t.Helper()
	x.crashKeepingSome()
	x.opens()
}

func (x *subscriber) crashKeepingSome() {
	x.t.Helper()
	x.ok(x.d.Crash(pending(x.d, 5)))
	*x.desk = *on(x.t, x.d)
}

func (x *subscriber) has() string {
	out := ""
	for row := range x.s.Scan(0, "t") {
		out += "t" + rowText(api.Row{row[2], row[1], row[0]})
	}
	for row := range x.s.Scan(0, "u") {
		out += "u" + rowText(row)
	}
	return out
}

// TestOverTheLine: what sessions do, read out of the log, carried over a line that loses, doubles and turns round, and
// applied, while either side dies: in the end the subscriber has what the publication wants, and each commit that it wants was applied once.
func TestOverTheLine(t *testing.T) {
	carried, crashes := 0, 0
	for seed := range 40 {
		g := seeded(2400 + seed)
		p, x := newPublisher(t, g), newSubscriber(t)
		ship := func(lossy bool) {
			l := p.sender.Frames()
			if lossy {
				g.Shuffle(len(l), func(i, j int) {
					if g.once(3) {
						l[i], l[j] = l[j], l[i]
					}
				})
			}
			for _, f := range l {
				for n := pick(g, 0, 1, 1, 1, 2); n > 0 || !lossy; n-- {
					x.frame(f)
					if !lossy || !g.once(3) {
						p.confirms(x.receiver.Word())
					}
					if !lossy {
						break
					}
				}
			}
		}
		for range 60 {
			for range g.Intn(20) {
				p.works()
			}
			p.reads(g.Intn(60))
			if g.once(6) {
				x.dies(g)
			}
			ship(true)
			switch {
			case g.once(12):
				p.crash()
				crashes++
			case g.once(8) || x.s.Doubt() || x.d.Dead():
				x.reopens()
				crashes++
			}
		}
		x.reopens()
		for range 200 {
			p.reads(1000)
			ship(false)
		}
		x.is(fmt.Sprint("what is left on the line, ", seed), p.sender.Left(), 0)
		x.is(fmt.Sprint("what the subscriber has, ", seed), x.has(), p.wanted())
		carried += x.commitsRise()
	}
	if carried < 800 || crashes < 200 {
		t.Errorf("only %d were carried, with %d crashes", carried, crashes)
	}
}

// commitsRise tells how many commits the log has of the origin: each place stands there once.
func (x *subscriber) commitsRise() int {
	x.t.Helper()
	n, last := 0, 0
	for _, s := range x.logged(8192) {
		var xid, at int
		if k, _ := fmt.Sscanf(s, "commit %d from pub at %d", &xid, &at); k == 2 {
			if at <= last {
				x.t.Errorf("%s, behind %d", s, last)
			}
			n, last = n+1, at
		}
	}
	return n
}
