package mvcc_test

import (
	"fmt"
	"maps"
	"math/rand"
	"slices"
	"strings"
	"testing"

	"confluence/api"
)

// deed is a write that was answered OK: under which number, and what the key has since (0: nothing).
type deed struct {
	number int
	key    string
	n      int
}

// life is what a test has noted of a transaction. Of the manager it has asked only for numbers and the snapshot.
type life struct {
	who
	began, ended int
	fold         map[string]int // what all gave that were committed when it began
	deeds        []deed
	parents      map[int]int // of its parts
	live         []int       // of its numbers, that may write
	back         map[int]bool
	prepared     bool
}

// survives tells whether a number, and all around it, were not taken back.
func (l *life) survives(n int) bool {
	for n != l.x {
		if l.back[n] {
			return false
		}
		n = l.parents[n]
	}
	return true
}

// own are its surviving writes, the last one of each key.
func (l *life) own() map[string]int {
	own := map[string]int{}
	for _, w := range l.deeds {
		if l.survives(w.number) {
			own[w.key] = w.n
		}
	}
	return own
}

// view is what it should see.
func (l *life) view() map[string]int {
	v := maps.Clone(l.fold)
	maps.Copy(v, l.own())
	return v
}

// within tells whether a number is another one, or stands in it.
func (l *life) within(n, outer int) bool {
	for n != outer && n != l.x {
		n = l.parents[n]
	}
	return n == outer
}

// history is a desk with all transactions that there were.
type history struct {
	*desk
	r      *rand.Rand
	now, n int
	fold   map[string]int // what all gave that are committed
	open   []*life        // the prepared ones too
	done   []*life        // committed
	came   map[string]int
}

func (h *history) begin() {
	s := h.m.Snapshot()
	x, _ := h.m.Begin()
	if h.r.Intn(2) == 0 {
		s = h.m.Snapshot() // from behind Begin, with its own number among the open ones: it is one of its beginning, too
	}
	h.open = append(h.open, &life{who: h.with(s, x), began: h.now, fold: maps.Clone(h.fold), parents: map[int]int{}, live: []int{x}, back: map[int]bool{}})
}

func (h *history) part(l *life) {
	parent := pick(h.r, l.live)
	x, e := h.m.Part(parent)
	if e == api.OK {
		l.parents[x] = parent
		l.live = append(l.live, x)
	}
}

// endPart takes a part back or releases it.
func (h *history) endPart(l *life, back bool) {
	p := pick(h.r, l.live)
	if p == l.x {
		return
	}
	if back {
		h.ok(h.m.Back(p))
		l.back[p] = true
	} else {
		h.ok(h.m.Release(p))
	}
	l.live = slices.DeleteFunc(l.live, func(n int) bool { return l.within(n, p) })
}

func (h *history) end(l *life, commit bool) {
	h.open = slices.DeleteFunc(h.open, func(o *life) bool { return o == l })
	if !commit {
		h.ok(h.m.Abort(l.x))
		return
	}
	h.ok(h.m.Commit(l.x))
	l.ended = h.now
	maps.Copy(h.fold, l.own())
	h.done = append(h.done, l)
}

// rival tells whether another one has written a key, and not taken that back, which this one does not see.
func (h *history) rival(l *life, key string) bool {
	for _, o := range slices.Concat(h.open, h.done) {
		if _, wrote := o.own()[key]; o != l && wrote && (o.ended == 0 || o.ended > l.began) {
			return true
		}
	}
	return false
}

var storyKeys = []string{"", "a", "b", "c", "d"}

// write writes under one of the numbers that may, and holds the answer against what is known.
func (h *history) write(l *life) {
	h.t.Helper()
	h.n++
	w, key := l.as(pick(h.r, l.live)), pick(h.r, storyKeys)
	old := l.view()[key]
	kind := h.r.Intn(3)
	want, n := "", h.n
	switch {
	case h.rival(l, key):
		want = "conflict"
	case kind == 0 && old != 0:
		want = "there"
	case kind != 0 && old == 0:
		want = "none"
	case kind == 0:
		want = "ok"
	default:
		want = rowText(row(old))
	}
	got := ""
	switch kind {
	case 0:
		got = w.insert(key, n)
	case 1:
		got = w.update(key, n)
	case 2:
		got, n = w.remove(key), 0
	}
	h.is(fmt.Sprintf("a write (%d) of %q under %d", kind, key, w.x), got, want)
	switch want {
	case "conflict", "there", "none":
		h.came[want]++
	default:
		h.came["ok"]++
		l.deeds = append(l.deeds, deed{w.x, key, n})
	}
}

// clean vacuums with the snapshots of all that are open, and lets the manager forget what lies below them all.
func (h *history) clean(forget bool) {
	below := h.m.Snapshot().Min
	var l []api.Snapshot
	for _, o := range h.open {
		l = append(l, copied(o.s))
		below = min(below, o.s.Min)
	}
	h.came["forgotten"] += h.h.Vacuum(l)
	if forget {
		h.came["numbers"] += h.m.Forget(below)
	}
}

func (h *history) step(clean bool) {
	h.t.Helper()
	h.now++
	if len(h.open) == 0 || len(h.open) < 6 && h.r.Intn(12) == 0 {
		h.begin()
		return
	}
	l := pick(h.r, h.open)
	k := h.r.Intn(40)
	switch {
	case k < 2:
		h.end(l, k == 0 || h.r.Intn(2) == 0)
	case k < 5 && clean:
		h.clean(k == 4)
	case l.prepared:
	case k < 6:
		h.ok(h.m.Prepare(l.x))
		l.prepared = true
	case k < 10:
		h.part(l)
	case k < 14:
		h.endPart(l, k < 12)
	default:
		h.write(l)
	}
}

// sees holds what each one reads, under each of its numbers, against what it should.
func (h *history) sees() {
	h.t.Helper()
	for _, l := range h.open {
		for _, n := range append(slices.Collect(maps.Keys(l.parents)), l.x) {
			h.reads(l.as(n), l.view())
		}
	}
	h.reads(h.with(h.m.Snapshot(), 0), h.fold)
}

func (h *history) reads(w who, view map[string]int) {
	h.t.Helper()
	var l []string
	for _, key := range storyKeys {
		want := "none"
		if n := view[key]; n != 0 {
			want = rowText(row(n))
			l = append(l, fmt.Sprintf("%q%s", key, want))
		}
		h.is(fmt.Sprintf("H8: Get of %q by %d", key, w.x), w.get(key), want)
	}
	h.is(fmt.Sprintf("H8: Scan by %d", w.x), w.scan(), strings.Join(l, " "))
}

// apart holds that no two that were open at one time and are both committed wrote one key.
func (h *history) apart() {
	h.t.Helper()
	for i, a := range h.done {
		for _, b := range h.done[:i] {
			if a.began > b.ended || b.began > a.ended {
				continue
			}
			h.came["met"]++
			for key := range a.own() {
				if _, both := b.own()[key]; both {
					h.t.Errorf("H8: %d and %d were open at one time, and both wrote %q", a.x, b.x, key)
				}
			}
		}
	}
}

// TestH8: random histories of transactions, each with its own snapshot; with and without Vacuum and Forget between.
func TestH8(t *testing.T) {
	came := map[string]int{}
	for seed := range 120 {
		h := &history{desk: newDesk(t), r: rand.New(rand.NewSource(int64(seed))), fold: map[string]int{}, came: came}
		for range 300 {
			h.step(seed%3 > 0)
			h.sees()
			if t.Failed() {
				t.Fatalf("seed %d", seed)
			}
		}
		for _, l := range slices.Clone(h.open) {
			h.end(l, h.r.Intn(2) == 0)
		}
		h.apart()
		h.clean(true)
		h.sees()
		there := 0
		for _, n := range h.fold {
			if n != 0 {
				there++
			}
		}
		h.versions("H8: when all are over, and cleaned up, each row is one version", there)
	}
	for _, what := range []string{"ok", "conflict", "there", "none", "forgotten", "numbers", "met"} {
		if came[what] < 500 {
			t.Errorf("%q came only %d times: the histories are not mixed well", what, came[what])
		}
	}
}

// TestP2: two sessions, as the document's second example of the whole has them.
func TestP2(t *testing.T) {
	d := newDesk(t)
	d.upon("5", 1)
	one, two := d.begin(), d.begin()
	d.is("1 reads", one.get("5"), "(1)")
	d.is("2 updates", two.update("5", 2), "(1)")
	two.commits()
	d.is("1 still reads the old one", one.get("5")+one.scan(), `(1)"5"(1)`)
	d.is("1 updates", one.update("5", 3), "conflict")
	d.is("who comes behind", d.begin().get("5"), "(2)")
}

// TestExamples: those of the chapter, word for word.
func TestExamples(t *testing.T) {
	d := newDesk(t)
	s := d.begin()
	d.is("Insert(s, 1, 7, k, (5))", s.insert("k", 5), "ok")
	d.is("Insert again", s.insert("k", 5), "there")
	d.is("Get", s.get("k"), "(5)")
	u := d.begin()
	d.is("Get(t, 2, 7, k)", u.get("k"), "none")
	d.is("Insert(t, 2, 7, k, (6))", u.insert("k", 6), "conflict")
	s.commits()
	d.is("Get behind the commit", u.get("k"), "none")
	d.is("Update(t, 2, ..)", u.update("k", 6), "conflict")
	d.written("behind the commit", 7, 1, false)

	p := u.part()
	if s.x != 1 || u.x != 2 || p.x != 3 {
		t.Fatalf("the numbers are %d, %d and %d", s.x, u.x, p.x)
	}
	d.is("Insert(t, 3, 7, q, (1))", p.insert("q", 1), "ok")
	p.isBack()
	d.is("Get(t, 2, 7, q)", u.get("q"), "none")
	d.versions("behind Back(3)", 2)
	d.vacuums("of t", 1, 1, u.s)

	v := d.begin()
	d.is("Delete(u, 4, 7, k)", v.remove("k"), "(5)")
	v.commits()
	d.versions("behind the commit of 4", 2)
	d.vacuums("of nothing", 2, 0)
}
