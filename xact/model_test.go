package xact_test

import (
	"maps"
	"math"
	"math/rand"
	"slices"
	"testing"

	"confluence/api"
	"confluence/xact"
)

// model is the chapter told over again, as plainly as may be. Of parts it notes only what was asked for; what became of those within is found by asking the ones around.
type model struct {
	next   int
	states map[int]int // of transactions
	parent map[int]int // of parts
	acts   map[int]int // of parts: the call that was last answered OK on just this one
}

const (
	wasReleased = 1
	wasBack     = 2
)

func newModel(next int) *model {
	return &model{next: next, states: map[int]int{}, parent: map[int]int{}, acts: map[int]int{}}
}

func (m *model) isTop(n int) bool { _, is := m.states[n]; return is }

func (m *model) isPart(n int) bool { _, is := m.parent[n]; return is }

func (m *model) known(n int) bool { return m.isTop(n) || m.isPart(n) }

// line is a part and all parts around it, and last its transaction.
func (m *model) line(n int) ([]int, int) {
	var l []int
	for m.isPart(n) {
		l = append(l, n)
		n = m.parent[n]
	}
	return l, n
}

func (m *model) top(n int) int {
	_, x := m.line(n)
	return x
}

// had tells whether one of those acts was done on a part or on one around it.
func (m *model) had(n int, acts ...int) bool {
	l, _ := m.line(n)
	return slices.ContainsFunc(l, func(p int) bool { return slices.Contains(acts, m.acts[p]) })
}

func (m *model) state(n int) int {
	switch {
	case !m.known(n):
		return api.Unknown
	case m.had(n, wasBack):
		return api.Aborted
	}
	return m.states[m.top(n)]
}

// mayGoOn: the transaction is Open, and what is a part is live.
func (m *model) mayGoOn(n int) bool {
	return m.states[m.top(n)] == api.Open && !m.had(n, wasReleased, wasBack)
}

// family are the parts of a transaction, rising.
func (m *model) family(top int) []int {
	var l []int
	for p := range m.parent {
		if m.top(p) == top {
			l = append(l, p)
		}
	}
	slices.Sort(l)
	return l
}

func (m *model) give() int {
	m.next++
	return m.next - 1
}

func (m *model) begin() (int, api.Errno) {
	if m.next == 2147483648 {
		return 0, api.ErrXactLast
	}
	n := m.give()
	m.states[n] = api.Open
	return n, api.OK
}

func (m *model) part(parent int) (int, api.Errno) {
	switch {
	case !m.known(parent):
		return 0, api.ErrXactNone
	case !m.mayGoOn(parent):
		return 0, api.ErrXactOver
	case len(m.family(m.top(parent))) >= 64:
		return 0, api.ErrXactMany
	case m.next == 2147483648:
		return 0, api.ErrXactLast
	}
	n := m.give()
	m.parent[n] = parent
	return n, api.OK
}

func (m *model) act(part, act int) api.Errno {
	switch {
	case !m.isPart(part):
		return api.ErrXactNone
	case !m.mayGoOn(part):
		return api.ErrXactOver
	}
	m.acts[part] = act
	return api.OK
}

func (m *model) turn(xid, to int) api.Errno {
	s := m.states[xid]
	switch {
	case !m.isTop(xid):
		return api.ErrXactNone
	case s == api.Committed || s == api.Aborted || to == api.Prepared && s == api.Prepared:
		return api.ErrXactOver
	}
	m.states[xid] = to
	return api.OK
}

func (m *model) parts(xid int) ([]int, api.Errno) {
	if !m.isTop(xid) {
		return nil, api.ErrXactNone
	}
	return slices.DeleteFunc(m.family(xid), func(p int) bool { return m.state(p) == api.Aborted }), api.OK
}

func (m *model) open() []int {
	var l []int
	for n, s := range m.states {
		if s == api.Open || s == api.Prepared {
			l = append(l, n)
		}
	}
	slices.Sort(l)
	return l
}

func (m *model) snapshot() api.Snapshot {
	s := api.Snapshot{Open: m.open(), Min: m.next, Max: m.next}
	for _, n := range s.Open {
		s.Min = min(s.Min, n)
	}
	return s
}

func (m *model) sees(s api.Snapshot, own, xid int) bool {
	if m.known(own) && m.known(xid) && m.top(own) == m.top(xid) {
		return m.state(xid) != api.Aborted
	}
	if m.known(xid) {
		return m.state(xid) == api.Committed && m.top(xid) < s.Max && !slices.Contains(s.Open, m.top(xid))
	}
	return xid >= 1 && xid < s.Min
}

func (m *model) forget(below int) int {
	count := 0
	for _, top := range slices.Collect(maps.Keys(m.states)) {
		all := append(m.family(top), top)
		if s := m.states[top]; s != api.Committed && s != api.Aborted || slices.ContainsFunc(all, func(n int) bool { return n >= below }) {
			continue
		}
		for _, n := range all {
			count++
			delete(m.states, n)
			delete(m.parent, n)
			delete(m.acts, n)
		}
	}
	return count
}

// pair is a manager and its model.
type pair struct {
	m     *xact.Manager
	o     *model
	snaps []api.Snapshot
	pick  func() int        // a number that may be asked for
	came  map[api.Errno]int // how often Part answered each
}

func newPair(t *testing.T, r *rand.Rand, next int, came map[api.Errno]int) *pair {
	p := &pair{m: start(t, next), o: newModel(next), snaps: []api.Snapshot{{}, {Min: last, Max: last}}, came: came}
	p.pick = func() int {
		switch r.Intn(12) {
		case 0:
			return never[r.Intn(len(never))]
		case 1:
			return p.o.next + r.Intn(2)
		case 2, 3, 4, 5: // a recent one
			return p.o.next - 1 - r.Intn(min(8, p.o.next))
		}
		return next + r.Intn(p.o.next-next+1)
	}
	return p
}

// step does one call on both.
func (p *pair) step(t *testing.T, r *rand.Rand, mix []int) {
	n := p.pick()
	switch mix[r.Intn(len(mix))] {
	case 0:
		x, e := p.m.Begin()
		y, f := p.o.begin()
		number(t, "Begin", x, e, y, f)
	case 1:
		x, e := p.m.Part(n)
		y, f := p.o.part(n)
		number(t, "Part", x, e, y, f)
		p.came[e]++
	case 2:
		is(t, "Release", p.m.Release(n), p.o.act(n, wasReleased))
	case 3:
		is(t, "Back", p.m.Back(n), p.o.act(n, wasBack))
	case 4:
		is(t, "Prepare", p.m.Prepare(n), p.o.turn(n, api.Prepared))
	case 5:
		is(t, "Commit", p.m.Commit(n), p.o.turn(n, api.Committed))
	case 6:
		is(t, "Abort", p.m.Abort(n), p.o.turn(n, api.Aborted))
	case 7:
		if got, want := p.m.Forget(n), p.o.forget(n); got != want {
			t.Errorf("Forget(%d): %d, want %d", n, got, want)
		}
	case 8:
		p.snaps = append(p.snaps, p.m.Snapshot())
	case 9: // one that no manager tells
		s := api.Snapshot{Min: p.pick(), Max: p.pick()}
		for range r.Intn(4) {
			s.Open = append(s.Open, p.pick())
		}
		p.snaps = append(p.snaps, s)
	}
}

// held holds all that the manager tells against the model; what is seen, of some.
func (p *pair) held(t *testing.T, r *rand.Rand) {
	want := p.o.snapshot()
	snapshot(t, "Snapshot", p.m.Snapshot(), want.Min, want.Max, want.Open...)
	list(t, "Open", p.m.Open(), p.o.open()...)
	if p.m.Next() != p.o.next {
		t.Errorf("Next = %d, want %d", p.m.Next(), p.o.next)
	}
	for range 20 {
		n := p.pick()
		states(t, "State", p.m, n, p.o.state(n))
		top, e := p.m.Top(n)
		if p.o.known(n) {
			number(t, "Top", top, e, p.o.top(n), api.OK)
		} else {
			number(t, "Top", top, e, 0, api.ErrXactNone)
		}
		l, e := p.m.Parts(n)
		k, f := p.o.parts(n)
		is(t, "Parts", e, f)
		list(t, "Parts", l, k...)
		s, own := p.snaps[r.Intn(len(p.snaps))], p.pick()
		if got, want := p.m.Sees(s, own, n), p.o.sees(s, own, n); got != want {
			t.Errorf("Sees(%v, %d, %d) = %v", s, own, n, got)
		}
	}
}

// mixes are what is done how often: a bit of all, many parts, many transactions, nothing that ends one.
var mixes = [][]int{
	{0, 0, 0, 1, 1, 1, 1, 1, 1, 2, 2, 3, 3, 4, 5, 5, 6, 7, 8, 9},
	{0, 1, 1, 1, 1, 1, 1, 1, 1, 1, 1, 1, 1, 1, 1, 1, 1, 2, 3, 8},
	{0, 0, 0, 0, 0, 1, 4, 5, 5, 5, 6, 6, 7, 8, 9},
	{0, 1, 1, 1, 1, 1, 2, 2, 3, 3, 8, 9},
}

// TestModel: random calls, right and wrong, on managers that begin at the first numbers, in the middle and near the end.
func TestModel(t *testing.T) {
	came := map[api.Errno]int{}
	for seed := range 120 {
		r := rand.New(rand.NewSource(int64(seed)))
		next := []int{1, 3, 1000, last - 200, last - 30, last + 1}[seed%6]
		p := newPair(t, r, next, came)
		mix := mixes[seed/6%len(mixes)]
		for range 300 {
			p.step(t, r, mix)
			p.held(t, r)
		}
		for n := next; n < p.o.next; n++ {
			states(t, "State at the end", p.m, n, p.o.state(n))
		}
		got, want := p.m.Forget(math.MaxInt), p.o.forget(math.MaxInt)
		if got != want {
			t.Errorf("Forget of all: %d, want %d", got, want)
		}
		if t.Failed() {
			t.Fatalf("seed %d", seed)
		}
	}
	for _, e := range []api.Errno{api.OK, none, over, api.ErrXactMany, api.ErrXactLast} {
		if came[e] < 50 {
			t.Errorf("Part answered %d only %d times: the calls are not mixed well", e, came[e])
		}
	}
}

// TestModelTrees: one transaction's parts as a random tree, ended in random order, each number looked at behind each step.
func TestModelTrees(t *testing.T) {
	for seed := range 200 {
		r := rand.New(rand.NewSource(int64(seed)))
		m, o := start(t, 1), newModel(1)
		m.Begin()
		o.begin()
		for range 200 {
			n := 1 + r.Intn(o.next)
			switch r.Intn(6) {
			case 0:
				is(t, "Release", m.Release(n), o.act(n, wasReleased))
			case 1:
				is(t, "Back", m.Back(n), o.act(n, wasBack))
			default:
				x, e := m.Part(n)
				y, f := o.part(n)
				number(t, "Part", x, e, y, f)
			}
			for k := 1; k <= o.next; k++ {
				states(t, "State", m, k, o.state(k))
			}
		}
		l, _ := m.Parts(1)
		k, _ := o.parts(1)
		list(t, "Parts", l, k...)
		if t.Failed() {
			t.Fatalf("seed %d", seed)
		}
	}
}
