package slot_test

import (
	"fmt"
	"math/rand"
	"slices"
	"strings"
	"testing"

	"confluence/api"
	"confluence/files"
	"confluence/publish"
	"confluence/slot"
)

// model does what the chapter says, word by word, with a disk of its own.
type model struct {
	d    *files.Disk
	have map[string]api.Slot
}

func (m *model) has(file string) bool { return slices.Contains(m.d.List(), file) }

func (m *model) open() api.Errno {
	if m.d.Dead() {
		return api.ErrDead
	}
	if m.has("slots.new") {
		if e := m.d.Remove("slots.new"); e != api.OK {
			return e
		}
	}
	have := map[string]api.Slot{}
	if m.has("slots") {
		size, _ := m.d.Size("slots")
		bytes, _ := m.d.Read("slots", 0, size)
		l, ok := ruled(bytes)
		if !ok {
			return api.ErrSlotForm
		}
		for _, x := range l {
			have[x.Name] = x
		}
	}
	m.have = have
	return api.OK
}

func (m *model) list() []api.Slot { return listed(m.have) }

func listed(have map[string]api.Slot) []api.Slot {
	var l []api.Slot
	for _, x := range have {
		l = append(l, x)
	}
	slices.SortFunc(l, func(a, b api.Slot) int { return strings.Compare(a.Name, b.Name) })
	return l
}

// write lets one be so, or be gone.
func (m *model) write(name string, x *api.Slot) api.Errno {
	have := map[string]api.Slot{}
	for k, y := range m.have {
		have[k] = y
	}
	delete(have, name)
	if x != nil {
		have[name] = *x
	}
	if m.d.Dead() {
		return api.ErrDead
	}
	steps := []func() api.Errno{
		func() api.Errno { return m.d.Create("slots.new") },
		func() api.Errno { return m.d.Append("slots.new", fileOf(listed(have)...)) },
		func() api.Errno { return m.d.Sync("slots.new") },
		func() api.Errno { return m.d.Rename("slots.new", "slots") },
	}
	if m.has("slots.new") {
		steps = append([]func() api.Errno{func() api.Errno { return m.d.Remove("slots.new") }}, steps...)
	}
	for _, step := range steps {
		if e := step(); e != api.OK {
			return e
		}
	}
	m.have = have
	return api.OK
}

func (m *model) create(x api.Slot) api.Errno {
	if !ruledName(x.Name) {
		return api.ErrSlotName
	}
	if publish.Right(x.Publication) != api.OK {
		return api.ErrPublishForm
	}
	if !ruledPlaces(x.Confirmed, x.Restart) {
		return api.ErrArg
	}
	if _, is := m.have[x.Name]; is {
		return api.ErrSlotThere
	}
	if len(m.have) >= 8 {
		return api.ErrSlotMany
	}
	return m.write(x.Name, &x)
}

func (m *model) advance(name string, confirmed, restart int) api.Errno {
	x, is := m.have[name]
	if !is {
		return api.ErrSlotNone
	}
	e, writes := advanced(x, confirmed, restart)
	if !writes {
		return e
	}
	x.Confirmed, x.Restart = confirmed, restart
	return m.write(name, &x)
}

func (m *model) drop(name string) api.Errno {
	if _, is := m.have[name]; !is {
		return api.ErrSlotNone
	}
	return m.write(name, nil)
}

// pair is slots and a model of them, each on a disk of its own, which are asked the same.
type pair struct {
	t        *testing.T
	source   *rand.Rand
	d        *files.Disk
	s        *slot.Slots
	m        *model
	trail    []string
	answered map[string]int // how often what was answered
}

func (p *pair) fail(what string, got, want any) {
	p.t.Helper()
	p.t.Fatalf("behind %q: %s: %v, want %v", p.trail[max(0, len(p.trail)-12):], what, got, want)
}

func (p *pair) answers(what string, got, want api.Errno) {
	p.t.Helper()
	p.trail = append(p.trail, fmt.Sprint(what, " ", got))
	p.answered[fmt.Sprint(strings.Fields(what)[0], " ", got)]++
	if got != want {
		p.fail(what, got, want)
	}
}

// sameDisks: the slots did to their disk just what the model did to its own.
func (p *pair) sameDisks() {
	p.t.Helper()
	a, b := p.d, p.m.d
	if !slices.Equal(a.List(), b.List()) || a.Dead() != b.Dead() || a.Free() != b.Free() || !slices.Equal(a.Files(), b.Files()) {
		p.fail("the disk", a.Files(), b.Files())
	}
	for _, name := range a.List() {
		if a.Pending(name) != b.Pending(name) {
			p.fail("pending of "+name, a.Pending(name), b.Pending(name))
		}
	}
	if !a.Dead() && !slices.Equal(bytesOf(a), bytesOf(b)) {
		p.fail("the bytes", bytesOf(a), bytesOf(b))
	}
}

func (p *pair) sameWords() {
	p.t.Helper()
	knows(p.t, p.s, p.m.list()...)
	for _, name := range []string{"a", "b", "c", "A", "", "zz"} {
		if _, is := p.m.have[name]; !is {
			getsNone(p.t, p.s, name)
		}
	}
	if p.t.Failed() {
		p.fail("what is told", p.s.List(), p.m.list())
	}
}

func (p *pair) someName() string {
	if p.source.Intn(12) == 0 {
		return noNames[p.source.Intn(len(noNames))]
	}
	return []string{"a", "aa", "a_", "b", "c", "d", "e", "f", "g", "abcdefghijklmnop"}[p.source.Intn(10)]
}

// somePlaces are mostly such as may be.
func (p *pair) somePlaces() (int, int) {
	if p.source.Intn(10) == 0 {
		edges := append([]int{first, top}, noPositions...)
		return edges[p.source.Intn(len(edges))], edges[p.source.Intn(len(edges))]
	}
	confirmed := first + p.source.Intn(1000)
	return confirmed, first + p.source.Intn(confirmed-first+1)
}

func (p *pair) someSlot() api.Slot {
	x := api.Slot{Name: p.someName(), Publication: pub("p")}
	x.Confirmed, x.Restart = p.somePlaces()
	switch p.source.Intn(12) {
	case 0:
		wrong := wrongPublications()
		x.Publication = wrong[p.source.Intn(len(wrong))]
	case 1:
		x.Publication = widest()
	case 2, 3, 4:
		x.Publication.Tables = x.Publication.Tables[1:2]
	}
	return x
}

// someAdvance is often from where the slot stands.
func (p *pair) someAdvance() (string, int, int) {
	name := p.someName()
	confirmed, restart := p.somePlaces()
	if x, is := p.m.have[name]; is && p.source.Intn(3) > 0 {
		confirmed, restart = x.Confirmed+p.source.Intn(8)-1, x.Restart+p.source.Intn(6)-1
		if p.source.Intn(4) == 0 {
			confirmed, restart = x.Confirmed, x.Restart
		}
	}
	return name, confirmed, restart
}

// both does the same to both disks.
func (p *pair) both(what string, f func(d *files.Disk)) {
	p.trail = append(p.trail, what)
	f(p.d)
	f(p.m.d)
}

// leave puts something aside, as a call of an earlier thing may have left it.
func (p *pair) leave() {
	left := leftovers()[p.source.Intn(len(leftovers()))]
	p.both("leave", func(d *files.Disk) {
		d.Create("slots.new")
		d.Append("slots.new", left)
	})
}

// fill takes some room, or gives it back.
func (p *pair) fill() {
	more := strings.Repeat("x", p.source.Intn(p.d.Free()+1))
	p.both("fill", func(d *files.Disk) {
		d.Create("fill")
		d.Truncate("fill", 0)
		d.Append("fill", more)
	})
}

// crash keeps some of what is pending.
func (p *pair) crash() {
	var keeps []api.Keep
	for _, name := range p.d.List() {
		n := p.d.Pending(name)
		keeps = append(keeps, api.Keep{Name: name, Bytes: []int{0, n, p.source.Intn(n + 1)}[p.source.Intn(3)]})
	}
	p.both("crash", func(d *files.Disk) { d.Crash(keeps) })
}

func (p *pair) openAnew() {
	p.t.Helper()
	s, e := slot.Open(p.d)
	p.answers("Open", e, p.m.open())
	if (s == nil) != (e != api.OK) {
		p.fail("Open", s, e)
	}
	if s != nil {
		p.s = s
	}
}

// spoilFile lets both be opened of a file that is no slots', or is, and puts the old one in its place again, if it was none.
func (p *pair) spoilFile() {
	p.t.Helper()
	if p.d.Dead() || !slices.Contains(p.d.List(), "slots") {
		return
	}
	size, _ := p.d.Size("slots")
	was, _ := p.d.Read("slots", 0, size)
	now := sealed(nudged(p.source, was[:len(was)-4]))
	put := func(bytes string) func(d *files.Disk) {
		return func(d *files.Disk) {
			d.Arm(0)
			d.FailSync(0)
			d.Truncate("slots", 0)
			d.Append("slots", bytes)
			d.Sync("slots")
		}
	}
	if len(now)-len(was) > p.d.Free() {
		return
	}
	p.both("spoil", put(now))
	p.openAnew()
	if _, ok := ruled(now); !ok {
		p.both("mend", put(was))
	}
}

func (p *pair) step() {
	p.t.Helper()
	switch n := p.source.Intn(100); {
	case n < 32:
		x := p.someSlot()
		p.answers(fmt.Sprintf("Create %.20q", x.Name), p.s.Create(x), p.m.create(x))
	case n < 60:
		name, confirmed, restart := p.someAdvance()
		p.answers(fmt.Sprintf("Advance %.20q %d %d", name, confirmed, restart), p.s.Advance(name, confirmed, restart), p.m.advance(name, confirmed, restart))
	case n < 70:
		name := p.someName()
		p.answers(fmt.Sprintf("Drop %.20q", name), p.s.Drop(name), p.m.drop(name))
	case n < 75:
		p.openAnew()
	case n < 79:
		k := p.source.Intn(10)
		p.both("arm", func(d *files.Disk) { d.Arm(k) })
	case n < 82:
		k := p.source.Intn(4)
		p.both("fail a sync", func(d *files.Disk) { d.FailSync(k) })
	case n < 85:
		p.leave()
	case n < 88:
		p.fill()
	case n < 90:
		p.spoilFile()
	case p.d.Dead() || n == 99:
		p.crash()
	}
}

// TestModel holds slots against their model over random calls, on disks that fill, fail and die.
func TestModel(t *testing.T) {
	source := rand.New(rand.NewSource(15))
	answered := map[string]int{}
	for range 300 {
		capacity := []int{600, 3000, 60000}[source.Intn(3)]
		p := &pair{t: t, source: source, d: loaded(t, capacity), m: &model{d: loaded(t, capacity)}, answered: answered}
		p.openAnew()
		for range 120 {
			p.step()
			p.sameDisks()
			p.sameWords()
		}
	}
	for _, what := range []string{"Open 0", "Open 2", "Open 195", "Create 0", "Create 1", "Create 2", "Create 23", "Create 25", "Create 180", "Create 190", "Create 191", "Create 194", "Advance 0", "Advance 1", "Advance 2", "Advance 23", "Advance 25", "Advance 192", "Advance 193", "Drop 0", "Drop 2", "Drop 23", "Drop 25", "Drop 192"} {
		if answered[what] < 10 {
			t.Errorf("%s came only %d times: %v", what, answered[what], answered)
		}
	}
}
