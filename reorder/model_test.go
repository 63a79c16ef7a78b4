package reorder_test

import (
	"fmt"
	"math/rand"
	"slices"
	"strings"
	"testing"

	"confluence/api"
	"confluence/files"
	"confluence/reorder"
	"confluence/spill"
)

// numbered is what the model knows of a number that is used.
type numbered struct {
	parent, begun int // parent 0: a transaction
	back          bool
}

// held is what was read ahead of a segment.
type held struct {
	c      api.Change
	cursor *spill.Cursor
}

// model does what the chapter says, word by word, over files of its own on a disk of its own. All that is at hand outside of segments stands in one list.
type model struct {
	limit, last, spilled int
	files                *spill.Store
	used                 map[int]*numbered
	hand                 []api.Change
	telling              int // the transaction whose stream has not ended; 0: none
	held                 []held
	wrong                api.Errno
}

// around is the transaction of a number that is used.
func (m *model) around(xid int) int {
	for m.used[xid].parent != 0 {
		xid = m.used[xid].parent
	}
	return xid
}

func (m *model) isKnown(xid int) bool {
	for n := m.used[xid]; n != nil && !n.back; n = m.used[n.parent] {
		if n.parent == 0 {
			return true
		}
	}
	return false
}

func (m *model) isOpen(xid int) bool { return m.used[xid] != nil && m.used[xid].parent == 0 }

func (m *model) begin(xid, lsn int) api.Errno {
	switch {
	case m.telling != 0:
		return api.ErrReorderOpen
	case xid < 1 || xid > 2147483647 || m.used[xid] != nil:
		return api.ErrReorderXid
	case lsn < 1 || lsn <= m.last:
		return api.ErrReorderOrder
	}
	m.last = lsn
	m.used[xid] = &numbered{begun: lsn}
	return api.OK
}

func (m *model) part(xid, parent, lsn int) api.Errno {
	switch {
	case m.telling != 0:
		return api.ErrReorderOpen
	case xid < 1 || xid > 2147483647 || m.used[xid] != nil || !m.isKnown(parent):
		return api.ErrReorderXid
	case lsn < 1 || lsn <= m.last:
		return api.ErrReorderOrder
	}
	m.last = lsn
	m.used[xid] = &numbered{parent: parent, begun: lsn}
	return api.OK
}

func (m *model) bytes() int {
	sum := 0
	for _, c := range m.hand {
		sum += sizeOf(c)
	}
	for _, h := range m.held {
		sum += sizeOf(h.c)
	}
	return sum
}

// most is the transaction that has the most bytes at hand.
func (m *model) most() int {
	sums := map[int]int{}
	for _, c := range m.hand {
		sums[m.around(c.Xid)] += sizeOf(c)
	}
	found := 0
	for xid, sum := range sums {
		if found == 0 || sum > sums[found] || sum == sums[found] && xid < found {
			found = xid
		}
	}
	return found
}

// apart has what is at hand of a transaction, and what is of others.
func (m *model) apart(xid int) (own, others []api.Change) {
	for _, c := range m.hand {
		if m.around(c.Xid) == xid {
			own = append(own, c)
		} else {
			others = append(others, c)
		}
	}
	return own, others
}

func (m *model) add(c api.Change) api.Errno {
	switch {
	case m.telling != 0:
		return api.ErrReorderOpen
	case !m.isKnown(c.Xid):
		return api.ErrReorderXid
	case c.Lsn < 1 || c.Lsn <= m.last:
		return api.ErrReorderOrder
	case c.Kind < 3 || c.Kind > 5 || c.Table < 1 || rowBytes(c.Old) == "" || rowBytes(c.New) == "":
		return api.ErrArg
	}
	for len(m.hand) > 0 && m.bytes()+sizeOf(c) > m.limit {
		xid := m.most()
		own, others := m.apart(xid)
		if e := m.files.Write(xid, own); e != api.OK {
			return e
		}
		m.spilled++
		m.hand = others
	}
	m.last = c.Lsn
	m.hand = append(m.hand, c)
	return api.OK
}

func (m *model) back(xid int) api.Errno {
	switch {
	case m.telling != 0:
		return api.ErrReorderOpen
	case !m.isKnown(xid) || m.isOpen(xid):
		return api.ErrReorderXid
	}
	m.used[xid].back = true
	m.hand = slices.DeleteFunc(m.hand, func(c api.Change) bool { return !m.isKnown(c.Xid) })
	return api.OK
}

func (m *model) forget(xid int) {
	_, m.hand = m.apart(xid)
	var over []int
	for n := range m.used {
		if m.around(n) == xid {
			over = append(over, n)
		}
	}
	for _, n := range over {
		delete(m.used, n)
	}
}

func (m *model) abort(xid int) api.Errno {
	switch {
	case m.telling != 0:
		return api.ErrReorderOpen
	case !m.isOpen(xid):
		return api.ErrReorderXid
	}
	if e := m.files.Remove(xid); e != api.OK {
		return e
	}
	m.forget(xid)
	return api.OK
}

// read reads on to a change that was not taken back, and holds it.
func (m *model) read(xid int, cursor *spill.Cursor) (held, bool, api.Errno) {
	for {
		c, ok, e := cursor.Next()
		if !ok {
			return held{}, false, e
		}
		if m.isKnown(c.Xid) && m.around(c.Xid) == xid {
			return held{c, cursor}, true, api.OK
		}
	}
}

func (m *model) commit(xid int) api.Errno {
	switch {
	case m.telling != 0:
		return api.ErrReorderOpen
	case !m.isOpen(xid):
		return api.ErrReorderXid
	}
	var all []held
	for k := range m.files.Segments(xid) {
		cursor, e := m.files.Cursor(xid, k)
		if e != api.OK {
			return e
		}
		h, ok, e := m.read(xid, cursor)
		if e != api.OK {
			return e
		}
		if ok {
			all = append(all, h)
		}
	}
	m.held, m.telling, m.wrong = all, xid, api.OK
	return api.OK
}

// least is the place in held of the least one, or that in hand, and where it is.
func (m *model) least() (place int, isHeld, is bool) {
	lsn := 0
	for i, h := range m.held {
		if !is || h.c.Lsn < lsn {
			place, isHeld, is, lsn = i, true, true, h.c.Lsn
		}
	}
	for i, c := range m.hand {
		if m.around(c.Xid) == m.telling && (!is || c.Lsn < lsn) {
			place, isHeld, is, lsn = i, false, true, c.Lsn
		}
	}
	return place, isHeld, is
}

func (m *model) next() (api.Change, bool, api.Errno) {
	if m.wrong != api.OK {
		return api.Change{}, false, m.wrong
	}
	place, isHeld, is := m.least()
	if !is {
		if e := m.files.Remove(m.telling); e != api.OK {
			return api.Change{}, false, e
		}
		m.forget(m.telling)
		m.telling = 0
		return api.Change{}, false, api.OK
	}
	if !isHeld {
		c := m.hand[place]
		m.hand = slices.Delete(m.hand, place, place+1)
		return c, true, api.OK
	}
	h := m.held[place]
	next, ok, e := m.read(m.telling, h.cursor)
	m.wrong = e
	if ok {
		m.held[place] = next
	} else {
		m.held = slices.Delete(m.held, place, place+1)
	}
	return h.c, true, api.OK
}

func (m *model) counts() api.Counts {
	open := 0
	for xid := range m.used {
		if m.isOpen(xid) {
			open++
		}
	}
	return api.Counts{Bytes: m.bytes(), Changes: len(m.hand) + len(m.held), Spilled: m.spilled, Open: open}
}

func (m *model) oldest() int {
	least := 0
	for xid, n := range m.used {
		if m.isOpen(xid) && (least == 0 || n.begun < least) {
			least = n.begun
		}
	}
	return least
}

// pair is a buffer and its model, which are asked the same, each on a disk of its own.
type pair struct {
	t        *testing.T
	source   *rand.Rand
	d, twin  *files.Disk
	b        *reorder.Buffer
	m        *model
	s        *reorder.Stream
	old      []*reorder.Stream // those that have ended
	numbers  int               // how many there are for all
	trail    []string
	answered map[string]int
}

func newPair(t *testing.T, source *rand.Rand, capacity, limit int, answered map[string]int) *pair {
	t.Helper()
	x, y := begun(t, capacity, limit), begun(t, capacity, limit)
	m := &model{limit: limit, files: y.s, used: map[int]*numbered{}}
	return &pair{t: t, source: source, d: x.d, twin: y.d, b: x.b, m: m, numbers: 4 + source.Intn(12), answered: answered}
}

func (p *pair) fail(what string, got, want any) {
	p.t.Helper()
	p.t.Fatalf("limit %d, behind %q: %s: %v, want %v", p.m.limit, p.trail[max(0, len(p.trail)-25):], what, got, want)
}

func (p *pair) answers(what string, got, want api.Errno) {
	p.t.Helper()
	p.trail = append(p.trail, fmt.Sprint(what, " ", got))
	p.answered[fmt.Sprint(strings.Fields(what)[0], " ", got)]++
	if got != want {
		p.fail(what, got, want)
	}
}

// alike: what is told of both is the same, and their disks are.
func (p *pair) alike() {
	p.t.Helper()
	if got, want := p.b.Counts(), p.m.counts(); got != want {
		p.fail("Counts", got, want)
	}
	if got, want := p.b.Oldest(), p.m.oldest(); got != want {
		p.fail("Oldest", got, want)
	}
	if p.d.Dead() != p.twin.Dead() || !slices.Equal(p.d.List(), p.twin.List()) || !slices.Equal(bytesOf(p.d), bytesOf(p.twin)) {
		p.fail("the disk", bytesOf(p.d), bytesOf(p.twin))
	}
	for _, s := range p.old {
		if c, ok, e := s.Next(); ok || e != api.OK || !isZero(c) {
			p.fail("Next of a stream that has ended", c, e)
		}
	}
}

func (p *pair) someXid() int {
	if p.source.Intn(40) == 0 {
		return []int{-1, 0, 2147483647, 2147483648}[p.source.Intn(4)]
	}
	return 1 + p.source.Intn(p.numbers)
}

// someOpen is mostly one that is open, since others are refused.
func (p *pair) someOpen() int {
	var l []int
	for xid := range p.m.used {
		if p.m.isOpen(xid) {
			l = append(l, xid)
		}
	}
	if len(l) == 0 || p.source.Intn(10) == 0 {
		return p.someXid()
	}
	slices.Sort(l)
	return l[p.source.Intn(len(l))]
}

// someKnown is mostly a number that is known.
func (p *pair) someKnown() int {
	for range 6 {
		if xid := p.someXid(); p.m.isKnown(xid) {
			return xid
		}
	}
	return p.someXid()
}

func (p *pair) someLsn() int {
	if p.source.Intn(20) == 0 {
		return p.m.last - p.source.Intn(p.m.last+2)
	}
	return p.m.last + 1 + p.source.Intn(5)
}

func (p *pair) someRow() api.Row {
	var r api.Row
	for range p.source.Intn(4) {
		r = append(r, []api.Value{{}, number(p.source.Intn(1000) - 500), text(strings.Repeat("t", p.source.Intn(60))), truth(p.source.Intn(2))}[p.source.Intn(4)])
	}
	return r
}

func (p *pair) someChange() api.Change {
	c := api.Change{Lsn: p.someLsn(), Xid: p.someKnown(), Kind: 3 + p.source.Intn(3), Table: 1 + p.source.Intn(3), Old: p.someRow(), New: p.someRow()}
	switch p.source.Intn(60) {
	case 0:
		c.Kind = p.source.Intn(12)
	case 1:
		c.Table = -p.source.Intn(2)
	case 2:
		c.Old = make(api.Row, 7+p.source.Intn(4))
	case 3:
		c.New = row(api.Value{Kind: api.Bool, N: p.source.Intn(4)})
	}
	return c
}

func (p *pair) commit() {
	p.t.Helper()
	xid := p.someOpen()
	s, e := p.b.Commit(xid)
	p.answers(fmt.Sprint("Commit ", xid), e, p.m.commit(xid))
	if (s == nil) != (e != api.OK) {
		p.fail("Commit", s, e)
	}
	if s != nil {
		p.s = s
	}
}

func (p *pair) next() {
	p.t.Helper()
	if p.m.telling == 0 {
		return
	}
	got, ok, e := p.s.Next()
	want, wantOK, wantE := p.m.next()
	p.answers("Next", e, wantE)
	if ok != wantOK || !same(got, want) || !ok && !isZero(got) {
		p.fail("Next", got, want)
	}
	if ok {
		p.answered["Next true"]++
	}
	if p.m.telling == 0 {
		p.answered["ended"]++
		p.old = append(p.old[max(0, len(p.old)-3):], p.s)
		p.s = nil
	}
}

// meddle does to both disks what somebody else may do.
func (p *pair) meddle() {
	names := p.d.List()
	if len(names) == 0 || p.d.Dead() {
		return
	}
	name := names[p.source.Intn(len(names))]
	size, _ := p.d.Size(name)
	var l []api.Change
	for range 1 + p.source.Intn(3) {
		l = append(l, full(1+p.source.Intn(p.m.last+10), 1+p.source.Intn(p.numbers)))
	}
	more := written(p.t, l...)
	cut, kind := p.source.Intn(size+1), p.source.Intn(6)
	for _, d := range []*files.Disk{p.d, p.twin} {
		switch kind {
		case 0:
			d.Remove(name)
		case 1:
			d.Truncate(name, cut)
		case 2:
			d.Append(name, "no change")
		case 3, 4:
			d.Append(name, more)
		case 5:
			d.Truncate(name, 0)
			d.Append(name, more)
		}
	}
	p.trail = append(p.trail, fmt.Sprint("meddle ", kind, " ", name))
}

// crash keeps some of what is pending.
func (p *pair) crash() {
	var keeps []api.Keep
	for _, name := range p.d.List() {
		n := p.d.Pending(name)
		keeps = append(keeps, api.Keep{Name: name, Bytes: []int{n, n, n, p.source.Intn(n + 1)}[p.source.Intn(4)]})
	}
	p.d.Crash(keeps)
	p.twin.Crash(keeps)
	p.trail = append(p.trail, "crash")
}

// step does one thing; rough: the disk may die, and others reach into it.
func (p *pair) step(rough bool) {
	p.t.Helper()
	n := p.source.Intn(100)
	// While one is told most calls are refused.
	if p.m.telling != 0 && p.source.Intn(4) > 0 {
		n = 70 + p.source.Intn(30)
	}
	switch {
	case n < 8:
		xid, lsn := p.someXid(), p.someLsn()
		p.answers(fmt.Sprint("Begin ", xid, " ", lsn), p.b.Begin(xid, lsn), p.m.begin(xid, lsn))
	case n < 18:
		xid, parent, lsn := p.someXid(), p.someKnown(), p.someLsn()
		p.answers(fmt.Sprint("Part ", xid, " ", parent, " ", lsn), p.b.Part(xid, parent, lsn), p.m.part(xid, parent, lsn))
	case n < 55:
		c := p.someChange()
		p.answers(fmt.Sprint("Add ", c), p.b.Add(c), p.m.add(c))
	case n < 60:
		xid := p.someKnown()
		p.answers(fmt.Sprint("Back ", xid), p.b.Back(xid), p.m.back(xid))
	case n < 63:
		xid := p.someOpen()
		p.answers(fmt.Sprint("Abort ", xid), p.b.Abort(xid), p.m.abort(xid))
	case n < 68:
		p.commit()
	case n < 94:
		p.next()
	case !rough:
	case p.d.Dead():
		if p.source.Intn(3) == 0 {
			p.crash()
		}
	case n < 97:
		n := 1 + p.source.Intn(8)
		p.d.Arm(n)
		p.twin.Arm(n)
	default:
		p.meddle()
	}
}

// TestModel holds buffers against their models over random calls, on disks that fill and die, and into which others reach.
func TestModel(t *testing.T) {
	answered := map[string]int{}
	for seed := range 1500 {
		source := rand.New(rand.NewSource(int64(seed)))
		limit := []int{0, 33, 100, 300, 1000, never}[source.Intn(6)]
		capacity := []int{300, 2000, 1000000}[source.Intn(3)]
		p := newPair(t, source, capacity, limit, answered)
		rough := seed%3 > 0
		for range 200 {
			p.step(rough)
			p.alike()
			// Such a stream never ends.
			if p.m.telling != 0 && p.m.wrong != api.OK {
				p.next()
				p.alike()
				break
			}
		}
	}
	for _, what := range []string{"Begin 0", "Begin 160", "Begin 161", "Begin 162", "Part 0", "Part 160", "Part 161", "Part 162", "Add 0", "Add 1", "Add 2", "Add 23", "Add 160", "Add 161", "Add 162", "Back 0", "Back 160", "Back 162", "Abort 0", "Abort 2", "Abort 160", "Abort 162", "Commit 0", "Commit 2", "Commit 140", "Commit 141", "Commit 160", "Commit 162", "Next 0", "Next 2", "Next 140", "Next 141", "Next true", "ended"} {
		if answered[what] < 20 {
			t.Errorf("%s came only %d times: %v", what, answered[what], answered)
		}
	}
}
