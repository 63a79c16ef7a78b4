package merge_test

import (
	"fmt"
	"math"
	"math/rand"
	"slices"
	"testing"

	"confluence/api"
	"confluence/merge"
)

// plain is a merge by the words of G1: its rows in the order in which they were added, and of each the change that is held.
type plain struct {
	rows []*source
	held []*api.Change // nil: none
}

func (p *plain) add(s *source) {
	p.rows = append(p.rows, s)
	p.held = append(p.held, nil)
	p.ask(len(p.rows) - 1)
}

func (p *plain) ask(i int) {
	p.held[i] = nil
	if c, is := p.rows[i].next(); is {
		p.held[i] = &c
	}
}

// least is the row whose change is the least one; -1: nothing is held.
func (p *plain) least() int {
	found := -1
	for i, c := range p.held {
		if c != nil && (found < 0 || c.Lsn < p.held[found].Lsn) {
			found = i
		}
	}
	return found
}

func (p *plain) next() (api.Change, bool) {
	i := p.least()
	if i < 0 {
		return api.Change{}, false
	}
	c := *p.held[i]
	p.ask(i)
	return c, true
}

func (p *plain) count() int {
	n := 0
	for _, c := range p.held {
		if c != nil {
			n++
		}
	}
	return n
}

// beside holds a merge against the words, call by call, on twin rows.
type beside struct {
	what  string
	m     *merge.Merge
	p     plain
	twins []*source
}

func (b *beside) add(l []api.Change) {
	s := of(l...)
	b.twins = append(b.twins, s)
	b.m.Add(s.next)
	b.p.add(of(l...))
}

func (b *beside) next(t *testing.T) bool {
	t.Helper()
	c, is := b.m.Next()
	want, as := b.p.next()
	if is != as || !same(c, want) {
		t.Fatalf("%s: Next: %v, %v, want %v, %v", b.what, c, is, want, as)
	}
	return is
}

// alike holds what is held, and how often each row was asked.
func (b *beside) alike(t *testing.T) {
	t.Helper()
	if got, want := b.m.Held(), b.p.count(); got != want {
		t.Fatalf("%s: Held: %d, want %d", b.what, got, want)
	}
	for i, s := range b.twins {
		if s.asked != b.p.rows[i].asked || s.ended > 1 {
			t.Fatalf("%s: row %d was asked %d times, %d of them at its end, want %d", b.what, i+1, s.asked, s.ended, b.p.rows[i].asked)
		}
	}
}

func (b *beside) toTheEnd(t *testing.T) {
	t.Helper()
	for b.next(t) {
		b.alike(t)
	}
	b.alike(t)
}

// lsns are some positions of a kind: any of few, rising, never falling, falling, all one, the edges of numbers.
func lsns(r *rand.Rand, count int) []int {
	l := make([]int, count)
	edges := []int{math.MinInt, math.MinInt + 1, -1 << 32, -1, 0, 1, 1 << 32, math.MaxInt - 1, math.MaxInt}
	kind, few := r.Intn(6), 1+r.Intn(40)
	for i := range l {
		l[i] = r.Intn(few) - few/3
		if kind == 5 {
			l[i] = edges[r.Intn(len(edges))]
		}
	}
	switch kind {
	case 1:
		slices.Sort(l)
		for i := range l {
			l[i] += i
		}
	case 2:
		slices.Sort(l)
	case 3:
		slices.Sort(l)
		slices.Reverse(l)
	case 4:
		for i := range l {
			l[i] = few / 2
		}
	}
	return l
}

// TestG1Random: rows are added and changes are taken in any order, also behind the end.
func TestG1Random(t *testing.T) {
	for seed := range 600 {
		r := rand.New(rand.NewSource(int64(seed)))
		b := &beside{what: fmt.Sprint("seed ", seed), m: merge.New()}
		likes, longest := 1+r.Intn(9), 1+r.Intn(12)
		for range 20 + r.Intn(150) {
			switch {
			case r.Intn(10) >= likes:
				b.next(t)
			case r.Intn(10) == 0:
				b.m.Add(nil)
			default:
				b.add(changes(len(b.twins)+1, lsns(r, r.Intn(longest))...))
			}
			b.alike(t)
		}
		b.toTheEnd(t)
		b.add(changes(77, lsns(r, 3)...))
		b.toTheEnd(t)
		ends(t, b.m)
	}
}

// TestG1AllSmall: each merge of three rows of at most three changes at three positions.
func TestG1AllSmall(t *testing.T) {
	small := [][]int{nil}
	for from := 0; len(small) < 1+3+9+27; from++ {
		for lsn := range 3 {
			small = append(small, append(slices.Clone(small[from]), lsn))
		}
	}
	for _, first := range small {
		for _, second := range small {
			for _, third := range small {
				b := &beside{what: fmt.Sprint(first, second, third), m: merge.New()}
				b.add(changes(1, first...))
				b.add(changes(2, second...))
				b.add(changes(3, third...))
				b.toTheEnd(t)
			}
		}
	}
}

// TestG3Random: Lists is what a merge by the words tells.
func TestG3Random(t *testing.T) {
	for seed := range 1500 {
		r := rand.New(rand.NewSource(int64(seed)))
		var l [][]api.Change
		var p plain
		for row := range r.Intn(30) {
			list := changes(row+1, lsns(r, r.Intn(10))...)
			l = append(l, list)
			p.add(of(list...))
		}
		var want []api.Change
		for c, is := p.next(); is; c, is = p.next() {
			want = append(want, c)
		}
		if got := merge.Lists(l); !sameLists(got, want) {
			t.Fatalf("seed %d: %v, want %v", seed, got, want)
		}
	}
}

// never tells whether the positions of a list never do something from one to the next.
func never(l []api.Change, does func(a, b int) bool) bool {
	for i := range len(l) - 1 {
		if does(l[i].Lsn, l[i+1].Lsn) {
			return false
		}
	}
	return true
}

// TestG3RisingRandom: of lists that rise, and of lists that do not at one place.
func TestG3RisingRandom(t *testing.T) {
	for seed := range 2000 {
		r := rand.New(rand.NewSource(int64(seed)))
		l := changes(1, lsns(r, r.Intn(8))...)
		if got, want := merge.Rising(l), never(l, func(a, b int) bool { return a >= b }); got != want {
			t.Fatalf("Rising: %v of %v", got, l)
		}
	}
}

// TestG4 holds what is told against the words of G4 alone.
func TestG4(t *testing.T) {
	for seed := range 1000 {
		r := rand.New(rand.NewSource(int64(seed)))
		var l [][]api.Change
		for row := range r.Intn(40) {
			list := lsns(r, r.Intn(12))
			if seed%2 == 0 {
				slices.Sort(list)
			}
			l = append(l, changes(row+1, list...))
		}
		what := fmt.Sprint("seed ", seed)
		var rows []*source
		for _, list := range l {
			rows = append(rows, of(list...))
		}
		whole(t, what, l, merge.Lists(l))
		whole(t, what, l, told(merged(rows...)))
	}
}

// whole holds that of each row just its changes are told, in their order; and the order of all, where no row falls.
func whole(t *testing.T, what string, l [][]api.Change, all []api.Change) {
	t.Helper()
	apart := make([][]api.Change, len(l))
	for _, c := range all {
		if c.Xid < 1 || c.Xid > len(l) {
			t.Fatalf("%s: %v is nobody's", what, c)
		}
		apart[c.Xid-1] = append(apart[c.Xid-1], c)
	}
	fall := false
	for i := range l {
		if !sameLists(apart[i], l[i]) {
			t.Fatalf("%s: of row %d came %v, want %v", what, i+1, apart[i], l[i])
		}
		fall = fall || !never(l[i], func(a, b int) bool { return a > b })
	}
	if fall {
		return
	}
	for i := range len(all) - 1 {
		a, b := all[i], all[i+1]
		if a.Lsn > b.Lsn || a.Lsn == b.Lsn && a.Xid > b.Xid {
			t.Fatalf("%s: %v ahead of %v", what, a, b)
		}
	}
}
