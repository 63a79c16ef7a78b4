package store_test

import (
	"fmt"
	"maps"
	"math/rand"
	"slices"
	"testing"

	"confluence/api"
	"confluence/record"
	"confluence/store"
)

// told is what a test has noted of a transaction, of the answers alone: what it saw when it began, what it wrote by parts
// within one another (the outermost first), when it began and ended.
type told struct {
	x            int
	began, ended int
	fold         map[int]string
	levels       []map[int]string
	name         string // under which it waits
}

// own is what it wrote and did not take back ("": gone).
func (w *told) own() map[int]string {
	all := map[int]string{}
	for _, l := range w.levels {
		maps.Copy(all, l)
	}
	return all
}

func (w *told) view() map[int]string {
	all := maps.Clone(w.fold)
	put(all, w.own())
	return all
}

// put lays writes upon rows.
func put(rows, writes map[int]string) {
	for key, text := range writes {
		if rows[key] = text; text == "" {
			delete(rows, key)
		}
	}
}

// story is a store with all that was answered: the fold of the commits, who is open, who was committed.
type story struct {
	*desk
	r      *rand.Rand
	now, n int
	fold   map[int]string
	open   []*told
	done   []*told
	doubt  *told // whose commit came into doubt
	waits  *told // whose Prepare did
	commit map[int]int
	came   map[string]int
}

// goes tells whether a call was done; a doubt is noted.
func (s *story) goes(e api.Errno) bool {
	if e == api.ErrDead || e == api.ErrStoreDoubt {
		s.came["doubt"]++
		return false
	}
	return e == api.OK
}

func (s *story) begins() {
	x, e := s.s.Begin()
	if s.goes(e) {
		s.open = append(s.open, &told{x: x, began: s.now, fold: maps.Clone(s.fold), levels: []map[int]string{{}}})
	}
}

// ends commits, by a name or not; what is not answered may be there or not.
func (s *story) ends(w *told) {
	var at int
	var e api.Errno
	if w.name != "" {
		at, e = s.s.CommitPrepared(w.name)
	} else {
		at, e = s.s.Commit(w.x)
	}
	if !s.goes(e) {
		s.doubt = w
		return
	}
	s.commits(w)
	s.commit[at] = w.x
}

func (s *story) commits(w *told) {
	s.open = slices.DeleteFunc(s.open, func(o *told) bool { return o == w })
	w.ended = s.now
	s.done = append(s.done, w)
	put(s.fold, w.own())
	s.came["commit"]++
}

// rival tells whether another one wrote a key, and did not take it back, which this one does not see.
func (s *story) rival(w *told, key int) bool {
	for _, o := range slices.Concat(s.open, s.done) {
		if _, wrote := o.own()[key]; o != w && wrote && (o.ended == 0 || o.ended > w.began) {
			return true
		}
	}
	return false
}

// writes writes a key, and holds what is answered against what is known.
func (s *story) writes(w *told) {
	s.t.Helper()
	s.n++
	key, text := s.r.Intn(5), fmt.Sprint("v", s.n)
	old := w.view()[key]
	var e api.Errno
	switch {
	case old == "":
		e = s.s.Insert(w.x, "t", r(key, text))
	case s.r.Intn(3) == 0:
		e, text = s.s.Delete(w.x, "t", v(key)), ""
	default:
		e = s.s.Update(w.x, "t", r(key, text))
	}
	if s.s.Doubt() {
		return
	}
	want := api.OK
	if s.rival(w, key) {
		want = api.ErrRowConflict
		s.came["conflict"]++
	}
	s.is(fmt.Sprintf("a write of %d by %d", key, w.x), e, want)
	if e == api.OK {
		w.levels[len(w.levels)-1][key] = text
		s.came["write"]++
	}
}

// reads holds all that one sees against what it saw when it began, and its own.
func (s *story) reads(x int, want map[int]string) {
	s.t.Helper()
	text := ""
	for _, key := range slices.Sorted(maps.Keys(want)) {
		text += fmt.Sprintf("(%d, '%s') ", key, want[key])
	}
	got := ""
	for row := range s.s.Scan(x, "t") {
		got += rowText(row) + " "
	}
	s.is(fmt.Sprintf("what %d sees", x), got, text)
	key := s.r.Intn(5)
	told := int(api.ErrRowNone)
	if want[key] != "" {
		s.is("Get", s.get(x, "t", key), fmt.Sprintf("(%d, '%s')", key, want[key]))
		return
	}
	s.is("Get", s.get(x, "t", key), told)
}

// parts sets a savepoint, goes back to the last one, or releases it.
func (s *story) parts(w *told) {
	n := len(w.levels)
	switch k := s.r.Intn(3); {
	case k == 0 && n < 5:
		if s.goes(s.s.Savepoint(w.x, fmt.Sprint("s", n))) {
			w.levels = append(w.levels, map[int]string{})
		}
	case n == 1:
	case k == 1:
		back := 1 + s.r.Intn(n-1)
		if s.goes(s.s.RollbackTo(w.x, fmt.Sprint("s", back))) {
			w.levels = append(w.levels[:back], map[int]string{})
			s.came["back"]++
		}
	case k == 2:
		out := 1 + s.r.Intn(n-1)
		if s.goes(s.s.Release(w.x, fmt.Sprint("s", out))) {
			for _, l := range w.levels[out:] {
				maps.Copy(w.levels[out-1], l)
			}
			w.levels = w.levels[:out]
			s.came["release"]++
		}
	}
}

func (s *story) prepares(w *told) {
	s.n++
	name := fmt.Sprint("w", s.n)
	if s.goes(s.s.Prepare(w.x, name)) {
		w.name = name
		s.came["prepare"]++
	} else if s.s.Doubt() {
		w.name, s.waits = name, w
	}
}

func (s *story) aborts(w *told) {
	if w.name != "" {
		return // in doubt it would be over or not; that is told of commits
	}
	if s.goes(s.s.Abort(w.x)) {
		s.open = slices.DeleteFunc(s.open, func(o *told) bool { return o == w })
	}
}

func (s *story) step() {
	s.t.Helper()
	s.now++
	if len(s.open) == 0 || len(s.open) < 5 && s.r.Intn(8) == 0 {
		s.begins()
		return
	}
	w := pick(s.r, s.open)
	k := s.r.Intn(30)
	switch {
	case k < 3:
		s.ends(w)
	case w.name != "":
		s.reads(0, s.fold)
	case k < 14:
		s.writes(w)
	case k < 19:
		s.reads(w.x, w.view())
	case k < 20:
		s.reads(0, s.fold)
	case k < 25:
		s.parts(w)
	case k < 26:
		s.prepares(w)
	case k < 27:
		s.aborts(w)
	case k < 28:
		s.s.Checkpoint()
	case k < 29:
		s.s.Trim(lastPosition)
	default:
		s.d.FailSync(s.r.Intn(3))
	}
}

// has tells whether a record stands in the log.
func (s *story) has(words string) bool {
	for _, x := range records(s.t, s.s, s.s.Log().First()) {
		if record.Print(x) == words {
			return true
		}
	}
	return false
}

// again ends the store by a crash that keeps some of what was pending, opens it anew, and holds all against what was answered.
func (s *story) again() {
	s.t.Helper()
	var l []api.Keep
	for _, name := range s.d.List() {
		l = append(l, api.Keep{Name: name, Bytes: s.r.Intn(s.d.Pending(name) + 1)})
	}
	if s.r.Intn(3) == 0 {
		l = pending(s.d)
	}
	s.ok(s.d.Crash(l))
	s.desk.open()
	if w := s.doubt; w != nil && s.has(fmt.Sprint("commit ", w.x)) {
		s.commits(w)
		s.came["there in doubt"]++
	} else if w != nil {
		s.came["not there in doubt"]++
	}
	if w := s.waits; w != nil && !s.has(fmt.Sprintf("prepare %d as %s", w.x, w.name)) {
		w.name = ""
		s.came["does not wait"]++
	}
	s.doubt, s.waits = nil, nil
	s.open = slices.DeleteFunc(s.open, func(w *told) bool { return w.name == "" })
	var names []string
	for _, w := range s.open {
		names = append(names, w.name)
	}
	slices.Sort(names)
	s.is("Prepared", s.s.Prepared(), names)
	s.is("Active", len(s.s.Active()), 0)
	s.reads(0, s.fold)
	for at, x := range s.commit { // each commit that was answered stands where it was told
		if at >= s.s.Log().First() {
			s.is("an answered commit", s.at(at), fmt.Sprint("commit ", x))
		}
	}
	files := bytesOf(s.t, s.d)
	s.desk.open()
	s.reads(0, s.fold)
	if got := bytesOf(s.t, s.d); !slices.Equal(got, files) {
		s.t.Errorf("an Open behind an Open leaves other files")
	}
}

// apart: of two that were active at one time and are both committed no row was written by both.
func (s *story) apart() {
	s.t.Helper()
	for i, a := range s.done {
		for _, b := range s.done[:i] {
			if a.began >= b.ended || b.began >= a.ended {
				continue
			}
			for key := range a.own() {
				if _, both := b.own()[key]; both {
					s.t.Errorf("%d and %d were open at one time, and both wrote %d", a.x, b.x, key)
				}
			}
		}
	}
}

// TestS15: lives, each of several ends.
func TestS15(t *testing.T) {
	came := map[string]int{}
	for seed := range int64(150) {
		s := &story{desk: newDesk(t), r: rand.New(rand.NewSource(seed)), fold: map[int]string{}, commit: map[int]int{}, came: came}
		for range 6 {
			armed := 20 + s.r.Intn(60)
			s.d.Arm(armed)
			for n := 0; n < 80 && !s.s.Doubt(); n++ {
				s.step()
			}
			s.again()
			if t.Failed() {
				t.Fatalf("seed %d", seed)
			}
		}
		s.apart()
	}
	for _, want := range []string{"doubt", "commit", "write", "conflict", "back", "release", "prepare", "there in doubt", "not there in doubt", "does not wait"} {
		if came[want] < 3 {
			t.Errorf("%q came only %d times", want, came[want])
		}
	}
	if testing.Verbose() {
		t.Log(came)
	}
}

// TestS15AnyBytes: of spoilt files an Open ends, and where there is a store its calls answer; it is one that lasts.
func TestS15AnyBytes(t *testing.T) {
	came := map[bool]int{}
	for seed := range int64(300) {
		source := rand.New(rand.NewSource(seed))
		k := busy(t)
		if seed%2 == 0 {
			k = filled(t)
			k.s.Checkpoint()
			k.put(40, "z")
		}
		l := bytesOf(t, k.d)
		for range 1 + source.Intn(3) {
			f := &l[source.Intn(len(l))]
			b := []byte(f.Bytes)
			switch n := source.Intn(len(b)); source.Intn(4) {
			case 0:
				b = b[:n]
			case 1:
				b[n] ^= byte(1 << source.Intn(8))
			case 2: // a whole right frame more, of some record
				b = append(b, framed(encoded(pick(source, []api.Rec{begins(17), commits(13), aborts(16), inserts(13, 1, 9), drops(17, 1), backs(14), checks(1, 1)})))...)
			case 3:
				b = append(b, b[n:]...)
			}
			f.Bytes = string(b)
		}
		d := loaded(t, l)
		s, e := store.Open(d)
		came[s != nil]++
		if s == nil {
			if e != api.ErrStoreForm {
				t.Errorf("seed %d: Open: %d", seed, e)
			}
			continue
		}
		one := &desk{t: t, d: d, s: s}
		was := one.picture()
		one.open()
		one.is("the picture behind a second Open", one.picture(), was)
		x := one.begin()
		for _, tab := range s.Tables() {
			one.s.Insert(x, tab.Name, r(77))
		}
		one.commit(x)
		one.s.Checkpoint()
		was = one.picture()
		one.crash()
		one.is("the picture behind a crash", one.picture(), was)
	}
	if came[true] < 20 || came[false] < 20 {
		t.Errorf("there was a store %d times, and none %d times", came[true], came[false])
	}
}
