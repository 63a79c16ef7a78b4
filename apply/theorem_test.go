package apply_test

import (
	"testing"

	"confluence/api"
	"confluence/store"
)

// begunReader is one of an origin on a new store, of a teller of so many sagas.
func begunReader(t *testing.T, g gen, n int, came map[string]int) *reader {
	t.Helper()
	k := bare(t)
	x := newTeller(t, g, "t", "u", "v")
	x.makes(k)
	return &reader{desk: k, origin: "pub", from: x, all: x.tells(n), came: came}
}

// dies lets the disk of a store die, or its next Sync fail, or does nothing: then it is broken off as it is.
func (k *desk) dies(g gen) {
	switch g.Intn(4) {
	case 0, 1:
		k.ok(k.d.Arm(1 + g.Intn(12)))
	case 2:
		k.ok(k.d.FailSync(1 + g.Intn(2)))
	}
}

// crashes loses some of what does not last, and opens the store anew.
func (k *desk) crashes(g gen) {
	k.t.Helper()
	k.ok(k.d.Crash(pending(k.d, pick(g, 0, 10, 10, g.Intn(11)))))
	s, e := store.Open(k.d)
	k.ok(e)
	k.s = s
}

// TestY5: transactions told again and again from any beginning that Y5 allows, broken off anywhere, by a store that dies.
func TestY5(t *testing.T) {
	came := map[string]int{}
	for seed := range 100 {
		g := seeded(2250 + seed)
		x := begunReader(t, g, 12, came)
		for range 40 {
			if g.once(2) {
				x.dies(g)
			}
			for n := g.Intn(60); n > 0; n-- {
				e := x.step()
				if e == api.ErrDead || e == api.ErrStoreDoubt {
					x.came["doubt"]++
					x.is("inside", x.a.Inside(), false)
					break
				}
				x.ok(e)
				x.stays()
			}
			x.breaksOff(g)
		}
		x.crashes(g)
		x.reopened()
		for x.done < len(x.all) {
			x.ok(x.step())
			x.stays()
		}
		x.once()
	}
	for what, least := range map[string]int{"applied": 1000, "passed over": 1000, "doubt": 200, "there all the same": 30, "another applier": 100, "broken off": 300} {
		if came[what] < least {
			t.Errorf("%s came only %d times", what, came[what])
		}
	}
}

// breaksOff ends a telling: by a crash; or, if it is outside, by another applier, by a checkpoint, or by nothing but another beginning.
func (x *reader) breaksOff(g gen) {
	x.t.Helper()
	if x.next > 0 || x.s.Doubt() || x.d.Dead() || g.once(3) {
		x.came["broken off"]++
		x.crashes(g)
		x.reopened()
		return
	}
	if g.once(4) {
		// That may come into doubt, too.
		if _, e := x.s.Checkpoint(); e != api.OK {
			x.crashes(g)
			x.reopened()
			return
		}
	}
	if g.once(2) {
		x.came["another applier"]++
		x.anew()
		return
	}
	x.again()
}

// TestY5EachPlace: one telling, broken off behind each message, with each part of the bytes that do not last yet kept, and then told from each beginning.
func TestY5EachPlace(t *testing.T) {
	came := map[string]int{}
	messages := 0
	for at := 0; at == 0 || at <= messages; at++ {
		for _, tenths := range []int{0, 3, 7, 10} {
			x := begunReader(t, seeded(2290), 5, came)
			messages = 0
			for _, s := range x.all {
				messages += len(s.messages)
			}
			x.anew()
			for range at {
				x.ok(x.step())
				x.stays()
			}
			x.ok(x.d.Crash(pending(x.d, tenths)))
			s, e := store.Open(x.d)
			x.ok(e)
			x.s = s
			x.reopened()
			for from := 0; from <= x.done && from < len(x.all); from++ {
				x.now, x.next = from, 0
				for x.now < len(x.all) {
					x.ok(x.step())
					x.stays()
				}
			}
			x.once()
		}
	}
}

// clash is a session that writes a column that is not told of rows of a reader's table, or rows of its own table.
type clash struct {
	*desk
	g   gen
	xid int // 0: it has none open
}

// step is something that a session does: an error of the store lets its transaction be aborted.
func (c *clash) step(table string) {
	c.t.Helper()
	if c.xid == 0 {
		c.xid, _ = c.s.Begin()
		return
	}
	if c.g.once(4) {
		if c.g.once(3) {
			c.s.Abort(c.xid)
		} else {
			c.s.Commit(c.xid)
		}
		c.xid = 0
		return
	}
	e := api.OK
	if c.g.once(2) {
		key := c.g.Intn(6)
		if row, f := c.s.Get(c.xid, table, v(key)); f == api.OK {
			for i, col := range c.columnsOf(table) {
				if col.Name == "more" {
					row[i] = v(pick(c.g, "x", "y", "z"))
				}
			}
			e = c.s.Update(c.xid, table, row)
		}
	} else {
		c.s.Insert(c.xid, "own", r(c.g.Intn(50), "s"))
	}
	if e != api.OK {
		c.s.Abort(c.xid)
		c.xid = 0
	}
}

func (c *clash) columnsOf(table string) []api.Column {
	for _, t := range c.s.Tables() {
		if t.Name == table {
			return t.Columns
		}
	}
	return nil
}

// TestSideBySide: two appliers of two origins on one store, message by message, with sessions that write what is not told
// of the same rows: who comes second fails, and is told again; each has the fold of its own origin.
func TestSideBySide(t *testing.T) {
	came := map[string]int{}
	for seed := range 80 {
		g := seeded(2300 + seed)
		k := bare(t)
		k.create("own", 0, "id i", "name t?")
		var readers []*reader
		for i, names := range [][]string{{"t", "u", "v"}, {"x", "y", "z"}} {
			from := newTeller(t, g, names...)
			from.makes(k)
			x := &reader{desk: k.beside([]string{"pub", "other"}[i]), origin: []string{"pub", "other"}[i], from: from, all: from.tells(20), came: came}
			x.anew()
			readers = append(readers, x)
		}
		sessions := []*clash{{desk: k, g: g}, {desk: k, g: g}}
		reopens := func() {
			k.crashes(g)
			for _, x := range readers {
				x.s = k.s
				x.reopened()
			}
			sessions[0].xid, sessions[1].xid = 0, 0
		}
		crashes := g.once(2)
		for range 600 {
			x := pick(g, readers...)
			switch {
			case g.once(3):
				pick(g, sessions...).step(pick(g, "t", "v", "x", "z"))
			case crashes && g.once(60):
				k.dies(g)
			case crashes && g.once(100):
				reopens()
			default:
				switch e := x.step(); e {
				case api.OK:
				case api.ErrApplyFailed:
					x.came["failed"]++
					x.again()
				default:
					x.is("in doubt", k.s.Doubt(), true)
				}
			}
			if k.s.Doubt() {
				x.came["doubt"]++
				reopens()
			}
			readers[0].stays()
			readers[1].stays()
		}
		reopens()
		for _, x := range readers {
			for x.done < len(x.all) {
				x.ok(x.step())
			}
			x.stays()
			x.once()
		}
	}
	for what, least := range map[string]int{"applied": 2000, "passed over": 1000, "failed": 150, "doubt": 50} {
		if came[what] < least {
			t.Errorf("%s came only %d times", what, came[what])
		}
	}
}
