package reorder_test

import (
	"math/rand"
	"slices"
	"testing"

	"confluence/api"
)

// act is a line of a log.
type act struct {
	kind        string // begin, part, add, back, abort, commit
	xid, parent int
	c           api.Change
}

// writer writes a log in which nothing is wrong: open transactions, their parts within one another, and which changes of each survive.
type writer struct {
	source *rand.Rand
	acts   []act
	lsn    int
	xid    int
	parent map[int]int // of each number that is known; 0: a transaction
	made   map[int][]api.Change
	told   [][]api.Change // of each commit
}

func (w *writer) place() int {
	w.lsn += 1 + w.source.Intn(3)
	return w.lsn
}

// number is a new one; numbers rise, as they do in a store's log.
func (w *writer) number(parent int) int {
	w.xid++
	w.parent[w.xid] = parent
	return w.xid
}

func (w *writer) whole(xid int) int {
	for w.parent[xid] != 0 {
		xid = w.parent[xid]
	}
	return xid
}

// within tells whether a number is one, or is within it.
func (w *writer) within(xid, one int) bool {
	for xid != 0 && xid != one {
		xid = w.parent[xid]
	}
	return xid == one
}

// some is one of those that are known, of transactions alone, of parts alone, or of both; 0: there is none.
func (w *writer) some(transactions, parts bool) int {
	var l []int
	for xid, parent := range w.parent {
		if transactions && parent == 0 || parts && parent != 0 {
			l = append(l, xid)
		}
	}
	if len(l) == 0 {
		return 0
	}
	slices.Sort(l)
	return l[w.source.Intn(len(l))]
}

// drop forgets a number and all within it.
func (w *writer) drop(one int) {
	var l []int
	for xid := range w.parent {
		if w.within(xid, one) {
			l = append(l, xid)
		}
	}
	for _, xid := range l {
		delete(w.parent, xid)
	}
}

func (w *writer) add(xid int) {
	c := full(w.place(), xid)
	if w.source.Intn(4) == 0 {
		c = bare(c.Lsn, xid)
	}
	if w.source.Intn(9) == 0 {
		c = sized(c.Lsn, xid, 35+w.source.Intn(128))
	}
	w.acts = append(w.acts, act{kind: "add", xid: xid, c: c})
	w.made[w.whole(xid)] = append(w.made[w.whole(xid)], c)
}

// back takes changes out that were made by what is within a number.
func (w *writer) back(one int) {
	w.acts = append(w.acts, act{kind: "back", xid: one})
	whole := w.whole(one)
	w.made[whole] = slices.DeleteFunc(w.made[whole], func(c api.Change) bool { return w.within(c.Xid, one) })
	w.drop(one)
}

func (w *writer) end(xid int, commit bool) {
	kind := "abort"
	if commit {
		kind = "commit"
		w.told = append(w.told, w.made[xid])
	}
	w.acts = append(w.acts, act{kind: kind, xid: xid})
	delete(w.made, xid)
	w.drop(xid)
}

func (w *writer) step() {
	n, any := w.source.Intn(100), w.some(true, true)
	switch {
	case n < 10 || any == 0:
		xid := w.number(0)
		w.acts = append(w.acts, act{kind: "begin", xid: xid, c: api.Change{Lsn: w.place()}})
	case n < 25:
		w.acts = append(w.acts, act{kind: "part", xid: w.number(any), parent: any, c: api.Change{Lsn: w.place()}})
	case n < 80:
		w.add(any)
	case n < 90:
		if part := w.some(false, true); part != 0 {
			w.back(part)
		}
	default:
		w.end(w.some(true, false), n < 97)
	}
}

// log is one with so many lines, behind which all is over, and what its commits tell.
func log(source *rand.Rand, lines int) ([]act, [][]api.Change) {
	w := &writer{source: source, parent: map[int]int{}, made: map[int][]api.Change{}}
	for range lines {
		w.step()
	}
	for xid := w.some(true, false); xid != 0; xid = w.some(true, false) {
		w.end(xid, source.Intn(3) > 0)
	}
	return w.acts, w.told
}

// greatest is the size of the greatest change of a log.
func greatest(acts []act) int {
	most := 0
	for _, a := range acts {
		if a.kind == "add" {
			most = max(most, sizeOf(a.c))
		}
	}
	return most
}

// read reads a log to its end, and has what its commits tell.
func (x *bench) read(acts []act, limit int) [][]api.Change {
	x.t.Helper()
	most := greatest(acts)
	var told [][]api.Change
	for _, a := range acts {
		switch a.kind {
		case "begin":
			x.begin(a.xid, a.c.Lsn)
		case "part":
			x.part(a.xid, a.parent, a.c.Lsn)
		case "add":
			x.add(a.c)
		case "back":
			x.back(a.xid)
		case "abort":
			x.abort(a.xid)
		case "commit":
			told = append(told, x.stream(a.xid, limit, most))
		}
		n := x.b.Counts()
		if n.Bytes > limit && n.Changes > 1 {
			x.t.Fatalf("limit %d: at hand are %+v", limit, n)
		}
		if n.Open == 0 {
			x.clean()
		}
	}
	return told
}

// stream has what a transaction tells; while it is told one change of each of its segments may be at hand above the limit.
func (x *bench) stream(xid, limit, most int) []api.Change {
	x.t.Helper()
	segments := x.s.Segments(xid)
	s := x.commit(xid)
	var l []api.Change
	for {
		// A limit that is never reached is above all numbers that can be added to it.
		if n := x.b.Counts(); limit != never && n.Bytes > max(limit, most)+segments*most {
			x.t.Fatalf("limit %d, %d segments: at hand are %+v", limit, segments, n)
		}
		c, ok, e := s.Next()
		if e != api.OK {
			x.t.Fatalf("Next: %d", e)
		}
		if !ok {
			return l
		}
		l = append(l, c)
	}
}

// TestU9: logs of all kinds, each told alike whatever the limit is, as they were written; nothing is left when nothing is open.
func TestU9(t *testing.T) {
	spilled := map[int]int{}
	for seed := range 120 {
		source := rand.New(rand.NewSource(int64(seed)))
		acts, want := log(source, 20+source.Intn(300))
		for _, limit := range []int{0, 1, 32, 33, 64, 100, 150, 500, 2000, never} {
			x := begun(t, 10000000, limit)
			got := x.read(acts, limit)
			x.clean()
			if len(got) != len(want) {
				t.Fatalf("seed %d, limit %d: %d commits, want %d", seed, limit, len(got), len(want))
			}
			for i, l := range want {
				if !slices.EqualFunc(got[i], l, same) {
					t.Fatalf("seed %d, limit %d: commit %d tells %v, want %v", seed, limit, i, got[i], l)
				}
			}
			spilled[limit] += x.b.Counts().Spilled
		}
	}
	if spilled[0] < 1000 || spilled[500] < 100 || spilled[never] != 0 {
		t.Errorf("segments by limits: %v", spilled)
	}
}

// TestU9Again: one buffer reads many logs one behind the other, with the same numbers, at rising positions.
func TestU9Again(t *testing.T) {
	source := rand.New(rand.NewSource(9))
	for _, limit := range []int{0, 200, 1000} {
		x := begun(t, 10000000, limit)
		above := 0
		for range 40 {
			acts, want := log(source, 60)
			top := above
			for i := range acts {
				if acts[i].c.Lsn != 0 {
					acts[i].c.Lsn += above
					top = acts[i].c.Lsn
				}
			}
			got := x.read(acts, limit)
			x.clean()
			for i, l := range want {
				if len(l) != len(got[i]) {
					t.Fatalf("commit %d tells %v, want %v", i, got[i], l)
				}
				for j, c := range l {
					c.Lsn += above
					if !same(got[i][j], c) {
						t.Fatalf("commit %d tells %v, want %v", i, got[i][j], c)
					}
				}
			}
			above = top
		}
	}
}

// TestU9DoesNotHangOnOthers: what a transaction tells is the same, whatever others are open beside it.
func TestU9DoesNotHangOnOthers(t *testing.T) {
	for others := range 6 {
		for _, limit := range []int{0, 100, 300} {
			x := begun(t, 1000000, limit)
			lsn := 0
			next := func() int { lsn++; return 10 * lsn }
			x.begin(7, next())
			x.part(8, 7, next())
			for i := range others {
				x.begin(100+i, 10*lsn+1+i)
			}
			var want []api.Change
			for i := range 50 {
				c := full(next(), 7+i%2)
				x.add(c)
				want = append(want, c)
				for k := range others {
					x.add(full(10*lsn+1+k, 100+(i+k)%others))
				}
			}
			x.whole(7, want...)
			for i := range others {
				x.abort(100 + i)
			}
			x.clean()
		}
	}
}

// TestGreat: many transactions, parts and changes, in a time that does not grow with their square.
func TestGreat(t *testing.T) {
	const many = 30000
	for _, limit := range []int{0, 100000, never} {
		x := begun(t, 100000000, limit)
		x.begin(1, 1)
		lsn := 1
		for xid := 2; xid <= many; xid++ {
			lsn += 3
			if x.b.Part(xid, 1, lsn) != api.OK || x.b.Add(bare(lsn+1, xid)) != api.OK {
				t.Fatal("Part, Add")
			}
			if xid%2 == 0 {
				if e := x.b.Back(xid); e != api.OK {
					t.Fatalf("Back(%d): %d", xid, e)
				}
			}
		}
		s := x.commit(1)
		for xid := 3; xid <= many; xid += 2 {
			if c, ok, e := s.Next(); c.Xid != xid || !ok || e != api.OK {
				t.Fatalf("Next: %v, %v, %d, want one of %d", c, ok, e, xid)
			}
		}
		x.nothing(s, api.OK)
		x.clean()
	}
}
