package spill_test

import (
	"fmt"
	"math/rand"
	"slices"
	"strings"
	"testing"

	"confluence/api"
	"confluence/files"
	"confluence/spill"
	"confluence/value"
)

// model does what the chapter says, word by word, with a disk of its own.
type model struct {
	d     *files.Disk
	name  string
	count map[int]int
}

func (m *model) file(xid, k int) string { return fmt.Sprintf("spill.%s.%d.%d", m.name, xid, k) }

func (m *model) open() api.Errno {
	if m.d.Dead() {
		return api.ErrDead
	}
	for _, name := range m.d.List() {
		if strings.HasPrefix(name, "spill."+m.name+".") {
			if e := m.d.Remove(name); e != api.OK {
				return e
			}
		}
	}
	m.count = map[int]int{}
	return api.OK
}

func isRight(c api.Change) bool {
	_, a := value.Encode(c.Old)
	_, b := value.Encode(c.New)
	return c.Lsn >= 1 && c.Table >= 1 && c.Xid >= 1 && c.Xid <= 2147483647 && (c.Kind == 3 || c.Kind == 4 || c.Kind == 5) && a == api.OK && b == api.OK
}

func (m *model) write(xid int, l []api.Change) api.Errno {
	if xid < 1 || xid > 2147483647 || len(l) == 0 {
		return api.ErrArg
	}
	for i, c := range l {
		if !isRight(c) || i > 0 && c.Lsn <= l[i-1].Lsn {
			return api.ErrArg
		}
	}
	bytes, file := laid(l...), m.file(xid, m.count[xid])
	if m.d.Dead() {
		return api.ErrDead
	}
	if len(bytes) > m.d.Free() {
		return api.ErrFileFull
	}
	var e api.Errno
	if slices.Contains(m.d.List(), file) {
		e = m.d.Truncate(file, 0)
	} else {
		e = m.d.Create(file)
	}
	if e != api.OK {
		return e
	}
	if e := m.d.Append(file, bytes); e != api.OK {
		return e
	}
	m.count[xid]++
	return api.OK
}

func (m *model) remove(xid int) api.Errno {
	for m.count[xid] > 0 {
		file := m.file(xid, m.count[xid]-1)
		if m.d.Dead() {
			return api.ErrDead
		}
		if slices.Contains(m.d.List(), file) {
			if e := m.d.Remove(file); e != api.OK {
				return e
			}
		}
		m.count[xid]--
	}
	return api.OK
}

func (m *model) all() []int {
	var l []int
	for xid, n := range m.count {
		if n > 0 {
			l = append(l, xid)
		}
	}
	slices.Sort(l)
	return l
}

func (m *model) cursor(xid, k int) api.Errno {
	if k < 0 || k >= m.count[xid] {
		return api.ErrSpillNone
	}
	if m.d.Dead() {
		return api.ErrDead
	}
	return api.OK
}

// place is a cursor of the model: the file's name, and how many of its bytes lie behind it.
type place struct {
	file string
	at   int
}

func (m *model) next(p *place) (api.Change, bool, api.Errno) {
	if m.d.Dead() {
		return api.Change{}, false, api.ErrDead
	}
	if !slices.Contains(m.d.List(), p.file) {
		return api.Change{}, false, api.ErrSpillNone
	}
	size, _ := m.d.Size(p.file)
	if p.at == size {
		return api.Change{}, false, api.OK
	}
	if p.at > size {
		return api.Change{}, false, api.ErrSpillForm
	}
	bytes, _ := m.d.Read(p.file, p.at, size-p.at)
	c, n, ok := ruled(bytes)
	if !ok {
		return api.Change{}, false, api.ErrSpillForm
	}
	p.at += n
	return c, true, api.OK
}

// reading is a cursor and its model.
type reading struct {
	c *spill.Cursor
	p *place
}

// pair is two stores on one disk, with a model of each on another one, which are asked the same; the first disk is the stores'.
type pair struct {
	t        *testing.T
	source   *rand.Rand
	d, twin  *files.Disk
	s        []*spill.Store
	m        []*model
	readings []reading
	trail    []string
	answered map[string]int // how often what was answered
}

func (p *pair) fail(what string, got, want any) {
	p.t.Helper()
	p.t.Fatalf("behind %q: %s: %v, want %v", p.trail[max(0, len(p.trail)-12):], what, got, want)
}

func (p *pair) answers(what string, got, want api.Errno) {
	p.t.Helper()
	p.trail = append(p.trail, fmt.Sprint(what, " ", got))
	p.answered[fmt.Sprint(strings.Fields(what)[0], " ", got)]++
	if got != want {
		p.fail(what, got, want)
	}
}

// sameDisks: the stores did to their disk just what the models did to theirs.
func (p *pair) sameDisks() {
	p.t.Helper()
	a, b := p.d, p.twin
	if !slices.Equal(a.List(), b.List()) || a.Dead() != b.Dead() || a.Free() != b.Free() || !slices.Equal(a.Files(), b.Files()) {
		p.fail("the disk", a.List(), b.List())
	}
	for _, name := range a.List() {
		if a.Pending(name) != b.Pending(name) {
			p.fail("pending of "+name, a.Pending(name), b.Pending(name))
		}
	}
	if !a.Dead() && !slices.Equal(bytesOf(a), bytesOf(b)) {
		p.fail("the bytes", bytesOf(a), bytesOf(b))
	}
}

func (p *pair) sameWords() {
	p.t.Helper()
	for i, m := range p.m {
		if got := p.s[i].All(); !slices.Equal(got, m.all()) {
			p.fail("All", got, m.all())
		}
		for _, xid := range []int{-1, 0, 1, 2, 3, 4, 2147483647} {
			if got := p.s[i].Segments(xid); got != m.count[xid] {
				p.fail("Segments", got, m.count[xid])
			}
		}
	}
}

func (p *pair) someXid() int {
	if p.source.Intn(30) == 0 {
		return []int{-1, 0, 2147483648}[p.source.Intn(3)]
	}
	return []int{1, 2, 3, 2147483647}[p.source.Intn(4)]
}

// someList is mostly right.
func (p *pair) someList() []api.Change {
	l := someChanges(p.source)
	c := &l[p.source.Intn(len(l))]
	switch p.source.Intn(60) {
	case 0:
		return nil
	case 1:
		c.Lsn = p.source.Intn(3) - 1
	case 2:
		c.Table = p.source.Intn(2)
	case 3:
		c.Xid = []int{0, -1, 2147483647, 2147483648}[p.source.Intn(4)]
	case 4:
		c.Kind = p.source.Intn(9)
	case 5:
		c.Old = make(api.Row, 7+p.source.Intn(3))
	case 6:
		l = append(l, *c)
	}
	return l
}

// meddle does to both disks what somebody else may do.
func (p *pair) meddle() {
	names := p.d.List()
	if len(names) == 0 {
		return
	}
	name := names[p.source.Intn(len(names))]
	size, _ := p.d.Size(name)
	cut, more, kind := p.source.Intn(size+1), someBytes(p.source), p.source.Intn(4)
	for _, d := range []*files.Disk{p.d, p.twin} {
		switch kind {
		case 0:
			d.Remove(name)
		case 1:
			d.Truncate(name, cut)
		case 2:
			d.Append(name, more)
		case 3:
			d.Truncate(name, 0)
			d.Append(name, more)
		}
	}
	p.trail = append(p.trail, fmt.Sprint("meddle ", kind, " ", name))
}

// crash keeps some of what is pending.
func (p *pair) crash() {
	var keeps []api.Keep
	for _, name := range p.d.List() {
		n := p.d.Pending(name)
		keeps = append(keeps, api.Keep{Name: name, Bytes: []int{0, n, n, p.source.Intn(n + 1)}[p.source.Intn(4)]})
	}
	p.d.Crash(keeps)
	p.twin.Crash(keeps)
	p.trail = append(p.trail, "crash")
}

func (p *pair) openAnew(i int) {
	p.t.Helper()
	s, e := spill.Open(p.d, p.m[i].name)
	p.answers(fmt.Sprint("Open ", p.m[i].name), e, p.m[i].open())
	if (s == nil) != (e != api.OK) {
		p.fail("Open", s, e)
	}
	if s != nil {
		p.s[i] = s
	}
}

func (p *pair) newCursor(i int) {
	p.t.Helper()
	xid, k := p.someXid(), p.source.Intn(5)-1
	c, e := p.s[i].Cursor(xid, k)
	p.answers(fmt.Sprint("Cursor ", xid, " ", k), e, p.m[i].cursor(xid, k))
	if (c == nil) != (e != api.OK) {
		p.fail("Cursor", c, e)
	}
	if c != nil {
		p.readings = append(p.readings, reading{c, &place{p.m[i].file(xid, k), 0}})
	}
}

func (p *pair) next() {
	p.t.Helper()
	if len(p.readings) == 0 {
		return
	}
	r := p.readings[max(0, len(p.readings)-1-p.source.Intn(6))]
	for range 1 + p.source.Intn(4) {
		got, ok, e := r.c.Next()
		want, wantOK, wantE := p.m[0].next(r.p)
		p.answers("Next "+r.p.file, e, wantE)
		if !same(got, want) || ok != wantOK || !ok && !isZero(got) {
			p.fail("Next", got, want)
		}
		if ok {
			p.answered["Next true"]++
		}
	}
}

func (p *pair) step() {
	p.t.Helper()
	i := p.source.Intn(2)
	switch n := p.source.Intn(100); {
	case n < 34:
		xid, l := p.someXid(), p.someList()
		p.answers(fmt.Sprint("Write ", p.m[i].name, " ", xid), p.s[i].Write(xid, l), p.m[i].write(xid, l))
	case n < 46:
		xid := p.someXid()
		p.answers(fmt.Sprint("Remove ", p.m[i].name, " ", xid), p.s[i].Remove(xid), p.m[i].remove(xid))
	case n < 48:
		p.openAnew(i)
	case n < 64:
		p.newCursor(i)
	case n < 84:
		p.next()
	case n < 90:
		n := 1 + p.source.Intn(6)
		p.d.Arm(n)
		p.twin.Arm(n)
	case n < 94:
		p.meddle()
	case p.d.Dead():
		p.crash()
	}
}

// TestModel holds two stores on one disk against their models over random calls, on disks that fill and die, and into which others reach; sometimes both have one name.
func TestModel(t *testing.T) {
	source := rand.New(rand.NewSource(15))
	answered := map[string]int{}
	for range 400 {
		capacity := []int{300, 2000, 20000}[source.Intn(3)]
		second := []string{"a", "ab", "b"}[source.Intn(3)]
		d, twin := loaded(t, capacity), loaded(t, capacity)
		p := &pair{t: t, source: source, d: d, twin: twin, answered: answered}
		for _, name := range []string{"a", second} {
			p.m = append(p.m, &model{d: twin, name: name, count: map[int]int{}})
			p.s = append(p.s, opened(t, d, name))
		}
		for range 120 {
			p.step()
			p.sameDisks()
			p.sameWords()
		}
	}
	for _, what := range []string{"Write 0", "Write 1", "Write 2", "Write 23", "Remove 0", "Remove 2", "Open 0", "Open 2", "Cursor 0", "Cursor 2", "Cursor 140", "Next 0", "Next 2", "Next 140", "Next 141", "Next true"} {
		if answered[what] < 20 {
			t.Errorf("%s came only %d times: %v", what, answered[what], answered)
		}
	}
}
