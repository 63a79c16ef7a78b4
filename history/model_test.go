package history_test

import (
	"fmt"
	"math"
	"math/rand"
	"slices"
	"strings"
	"testing"

	"confluence/api"
	"confluence/catalog"
	"confluence/history"
)

// said is a note of the model.
type said struct {
	lsn, number int
	gone        bool
	table       api.Table
}

// model does what the chapter says, word by word: all notes stand in one list, as they came.
type model struct {
	begin, last int
	notes       []said
}

func newModel(l []api.Table, lsn int) (*model, api.Errno) {
	if lsn < 1 {
		return nil, api.ErrArg
	}
	m := &model{begin: lsn, last: lsn}
	for i, t := range l {
		if catalog.Right(t) != api.OK || i > 0 && t.ID <= l[i-1].ID {
			return nil, api.ErrArg
		}
		m.notes = append(m.notes, said{lsn: lsn, number: t.ID, table: t})
	}
	return m, api.OK
}

// greatest is the note of a number with the greatest position that is not above this one.
func (m *model) greatest(lsn, number int) (said, bool) {
	var found said
	is := false
	for _, n := range m.notes {
		if n.number == number && n.lsn <= lsn && (!is || n.lsn > found.lsn) {
			found, is = n, true
		}
	}
	return found, is
}

func (m *model) was(lsn, number int) (api.Table, bool) {
	n, is := m.greatest(lsn, number)
	if !is || n.gone {
		return api.Table{}, false
	}
	return n.table, true
}

func (m *model) put(lsn int, t api.Table) api.Errno {
	switch {
	case catalog.Right(t) != api.OK:
		return api.ErrArg
	case lsn <= m.last:
		return api.ErrHistoryOrder
	}
	m.notes = append(m.notes, said{lsn: lsn, number: t.ID, table: t})
	m.last = lsn
	return api.OK
}

func (m *model) gone(lsn, number int) api.Errno {
	if lsn <= m.last {
		return api.ErrHistoryOrder
	}
	if _, is := m.was(m.last, number); !is {
		return api.ErrHistoryNone
	}
	m.notes = append(m.notes, said{lsn: lsn, number: number, gone: true})
	m.last = lsn
	return api.OK
}

func (m *model) at(lsn, number int) (api.Table, api.Errno) {
	t, is := m.was(lsn, number)
	if lsn < m.begin || !is {
		return api.Table{}, api.ErrHistoryNone
	}
	return t, api.OK
}

func (m *model) list(lsn int) ([]api.Table, api.Errno) {
	if lsn < m.begin {
		return nil, api.ErrHistoryNone
	}
	var numbers []int
	for _, n := range m.notes {
		numbers = append(numbers, n.number)
	}
	slices.Sort(numbers)
	var l []api.Table
	for _, number := range slices.Compact(numbers) {
		if t, is := m.was(lsn, number); is {
			l = append(l, t)
		}
	}
	return l, api.OK
}

func (m *model) trim(lsn int) int {
	if lsn <= m.begin {
		return 0
	}
	var left []said
	for _, n := range m.notes {
		k, is := m.greatest(lsn, n.number)
		if !is || n.lsn > k.lsn || n.lsn == k.lsn && !k.gone {
			left = append(left, n)
		}
	}
	forgotten := len(m.notes) - len(left)
	m.notes, m.begin, m.last = left, lsn, max(m.last, lsn)
	return forgotten
}

// pair is a history and its model, which are asked the same.
type pair struct {
	t        *testing.T
	source   *rand.Rand
	h        *history.History
	m        *model
	numbers  int
	trail    []string
	answered map[string]int
}

func (p *pair) answers(what string, got, want any) {
	p.t.Helper()
	p.trail = append(p.trail, fmt.Sprint(what, ": ", got))
	p.answered[fmt.Sprint(strings.Fields(what)[0], " ", got)]++
	if got != want {
		p.t.Fatalf("behind %q: %s: %v, want %v", p.trail[max(0, len(p.trail)-25):], what, got, want)
	}
}

func (p *pair) someNumber() int {
	if p.source.Intn(15) == 0 {
		return []int{0, -1, api.MaxXid, api.MaxXid + 1, math.MinInt, math.MaxInt}[p.source.Intn(6)]
	}
	return 1 + p.source.Intn(p.numbers)
}

func (p *pair) someTable() api.Table {
	t := table(1+p.source.Intn(p.numbers), 1+p.source.Intn(9))
	switch p.source.Intn(15) {
	case 0:
		t.ID = p.someNumber()
	case 1:
		t.Key = p.source.Intn(3)
	case 2:
		t.Name = "t" // a name that others have, too
	}
	return t
}

// someLsn is mostly one at which a note may be laid.
func (p *pair) someLsn() int {
	switch p.source.Intn(12) {
	case 0:
		return p.m.last - p.source.Intn(3)
	case 1:
		return p.source.Intn(p.m.last + 1)
	case 2:
		return []int{math.MinInt, -1, 0}[p.source.Intn(3)]
	}
	return p.m.last + 1 + p.source.Intn(4)
}

// someBeginning is about where there are notes, seldom above all of them.
func (p *pair) someBeginning() int {
	if p.source.Intn(6) == 0 {
		return p.m.last + p.source.Intn(4)
	}
	return p.m.begin - 2 + p.source.Intn(8)
}

func (p *pair) step() {
	p.t.Helper()
	switch p.source.Intn(7) {
	case 0, 1, 2:
		lsn, t := p.someLsn(), p.someTable()
		p.answers(fmt.Sprintf("Put (%d, %+v)", lsn, t), p.h.Put(lsn, t), p.m.put(lsn, t))
	case 3, 4:
		lsn, number := p.someLsn(), p.someNumber()
		p.answers(fmt.Sprintf("Gone (%d, %d)", lsn, number), p.h.Gone(lsn, number), p.m.gone(lsn, number))
	case 5:
		lsn := p.someBeginning()
		p.answers(fmt.Sprintf("Trim (%d)", lsn), p.h.Trim(lsn), p.m.trim(lsn))
	default:
		lsn, number := p.someLsn(), p.someNumber()
		_, e := p.h.At(lsn, number)
		_, f := p.m.at(lsn, number)
		p.answers(fmt.Sprintf("At (%d, %d)", lsn, number), e, f)
	}
}

// alike: both tell the same of each position from ahead of the beginning to behind the last one.
func (p *pair) alike() {
	p.t.Helper()
	p.answers("Noted", p.h.Noted() == len(p.m.notes), true)
	lsns := []int{math.MinInt, 0, math.MaxInt}
	for lsn := p.m.begin - 2; lsn <= p.m.last+2; lsn++ {
		lsns = append(lsns, lsn)
	}
	for _, lsn := range lsns {
		l, e := p.h.List(lsn)
		m, f := p.m.list(lsn)
		if e != f || !slices.EqualFunc(l, m, same) {
			p.t.Fatalf("behind %q: List(%d): %+v, %d, want %+v, %d", p.trail, lsn, l, e, m, f)
		}
		for number := range p.numbers + 2 {
			got, e := p.h.At(lsn, number)
			want, f := p.m.at(lsn, number)
			if e != f || !same(got, want) {
				p.t.Fatalf("behind %q: At(%d, %d): %+v, %d, want %+v, %d", p.trail, lsn, number, got, e, want, f)
			}
		}
	}
}

// someBegun is a pair over some tables, or none, if both refuse them.
func someBegun(t *testing.T, source *rand.Rand, answered map[string]int) *pair {
	p := &pair{t: t, source: source, numbers: 1 + source.Intn(6), answered: answered, m: &model{}}
	var l []api.Table
	for n := 1; n <= p.numbers; n++ {
		if source.Intn(2) == 0 {
			l = append(l, table(n, 1))
		}
	}
	if source.Intn(6) == 0 {
		l = append(l, p.someTable())
	}
	lsn := source.Intn(20)
	h, e := history.New(l, lsn)
	m, f := newModel(l, lsn)
	p.answers(fmt.Sprintf("New (%+v, %d)", l, lsn), e, f)
	if (h == nil) != (m == nil) {
		t.Fatalf("New(%+v, %d): %v", l, lsn, h)
	}
	p.h, p.m = h, m
	return p
}

func TestModel(t *testing.T) {
	answered := map[string]int{}
	for seed := range 400 {
		p := someBegun(t, rand.New(rand.NewSource(int64(seed))), answered)
		if p.h == nil {
			continue
		}
		for range 50 {
			p.step()
			p.alike()
		}
	}
	for _, what := range []string{"New 0", "New 1", "Put 0", "Put 1", "Put 171", "Gone 0", "Gone 170", "Gone 171", "At 0", "At 170", "Trim 0", "Trim 1", "Trim 2", "Trim 3"} {
		if answered[what] < 20 {
			t.Errorf("%s came %d times alone", what, answered[what])
		}
	}
}
