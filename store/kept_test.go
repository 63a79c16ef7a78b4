package store

import (
	"fmt"
	"math/rand"
	"testing"

	"confluence/api"
	"confluence/files"
)

func keeper(t *testing.T) *Store {
	t.Helper()
	d, _ := files.New(10000000)
	if e := Format(d); e != api.OK {
		t.Fatalf("Format: %d", e)
	}
	s, e := Open(d)
	if e != api.OK {
		t.Fatalf("Open: %d", e)
	}
	_, e = s.CreateTable("t", []api.Column{{Name: "k", Kind: api.Int}, {Name: "n", Kind: api.Int, Null: true}}, 0)
	if e != api.OK {
		t.Fatalf("CreateTable: %d", e)
	}
	return s
}

func pairOf(k, n int) api.Row {
	return api.Row{{Kind: api.Int, N: k}, {Kind: api.Int, N: n}}
}

// TestKeptLittle: a row that is written over and over, what is aborted, taken back and deleted, and numbers of what is over, are forgotten in time.
func TestKeptLittle(t *testing.T) {
	s := keeper(t)
	most := 0
	for n := range 5000 {
		x, e := s.Begin()
		if e != api.OK {
			t.Fatalf("Begin: %d", e)
		}
		wrong := api.OK
		if n == 0 {
			wrong = s.Insert(x, "t", pairOf(1, n))
		}
		for _, e := range []api.Errno{s.Update(x, "t", pairOf(1, n)), s.Savepoint(x, "s"), s.Insert(x, "t", pairOf(n+10, n))} {
			wrong = max(wrong, e)
		}
		if wrong != api.OK {
			t.Fatalf("a write: %d", wrong)
		}
		switch n % 3 {
		case 0:
			s.RollbackTo(x, "s")
			s.Commit(x)
		case 1:
			s.Abort(x)
		case 2:
			s.Delete(x, "t", api.Value{Kind: api.Int, N: n + 10})
			s.Commit(x)
		}
		most = max(most, s.heap.Versions())
	}
	if most > 3*rest {
		t.Errorf("%d versions were kept of one row", most)
	}
	s.sweep()
	if n := s.heap.Versions(); n != 1 {
		t.Errorf("%d versions are kept of one row", n)
	}
	if s.young != 0 || s.old != 1 {
		t.Errorf("behind a sweep %d records are counted, and %d are said to be left", s.young, s.old)
	}
	if n := s.xacts.Forget(s.xacts.Next()); n != 0 {
		t.Errorf("%d numbers were kept", n)
	}
}

// TestKeptForWhoLooks: while one looks, what it sees is kept, and no more.
func TestKeptForWhoLooks(t *testing.T) {
	s := keeper(t)
	x, _ := s.Begin()
	s.Insert(x, "t", pairOf(1, 0))
	s.Commit(x)
	old, _ := s.Begin()
	for n := range 1000 {
		x, _ := s.Begin()
		if e := s.Update(x, "t", pairOf(1, n)); e != api.OK {
			t.Fatalf("Update: %d", e)
		}
		s.Commit(x)
	}
	if r, _ := s.Get(old, "t", api.Value{Kind: api.Int, N: 1}); fmt.Sprint(r) != fmt.Sprint(pairOf(1, 0)) {
		t.Errorf("who began first sees %v", r)
	}
	s.sweep()
	if n := s.heap.Versions(); n != 2 {
		t.Errorf("%d versions are kept, of which two are looked at", n)
	}
	if s.old != 2+1001 { // the numbers of all that began with who looks, or behind that
		t.Errorf("%d are said to be left", s.old)
	}
	s.Commit(old)
	s.sweep()
	if n := s.heap.Versions(); n != 1 {
		t.Errorf("%d versions are kept, of which one is looked at", n)
	}
}

// TestKeptInDoubt: of a store in doubt nothing is kept but what it stands on.
func TestKeptInDoubt(t *testing.T) {
	s := keeper(t)
	x, _ := s.Begin()
	s.Insert(x, "t", pairOf(1, 0))
	s.Disk().Arm(1)
	if _, e := s.Commit(x); e != api.ErrDead {
		t.Fatalf("Commit: %d", e)
	}
	if s.heap.Versions() != 0 || len(s.tables.List()) != 0 || len(s.active) != 0 || s.xacts.Next() != 1 {
		t.Error("a store in doubt keeps what it knew")
	}
}

// TestSweepIsNotSeen: a store that sweeps behind each call answers as one does that never does.
func TestSweepIsNotSeen(t *testing.T) {
	less := 0
	for seed := range int64(40) {
		a, b := keeper(t), keeper(t)
		source := rand.New(rand.NewSource(seed))
		for n := range 400 {
			move := source.Int63()
			a.sweep()
			b.young = -1000000 // far from a sweep
			if got, want := act(a, move, n), act(b, move, n); got != want {
				t.Fatalf("seed %d, call %d: %s, without a sweep %s", seed, n, got, want)
			}
		}
		less += b.heap.Versions() - a.heap.Versions()
	}
	if less < 100 {
		t.Errorf("with sweeps there are only %d versions less", less)
	}
}

// act does something to a store, as a number says, and tells all that was answered.
func act(s *Store, seed int64, n int) string {
	source := rand.New(rand.NewSource(seed))
	x := 0
	if l := s.Active(); len(l) > 0 {
		x = l[source.Intn(len(l))]
	}
	key := source.Intn(4)
	out := ""
	switch k := source.Intn(20); {
	case k < 3 || x == 0:
		y, e := s.Begin()
		out = fmt.Sprint("begin ", y, e)
	case k < 7:
		out = fmt.Sprint("insert ", s.Insert(x, "t", pairOf(key, n)))
	case k < 10:
		out = fmt.Sprint("update ", s.Update(x, "t", pairOf(key, n)))
	case k < 12:
		out = fmt.Sprint("delete ", s.Delete(x, "t", api.Value{Kind: api.Int, N: key}))
	case k < 14:
		out = fmt.Sprint("savepoint ", s.Savepoint(x, "s"))
	case k < 15:
		out = fmt.Sprint("back ", s.RollbackTo(x, "s"))
	case k < 16:
		out = fmt.Sprint("release ", s.Release(x, "s"))
	case k < 18:
		at, e := s.Commit(x)
		out = fmt.Sprint("commit ", at, e)
	case k < 19:
		out = fmt.Sprint("abort ", s.Abort(x))
	default:
		at, e := s.EmptyTable("t")
		out = fmt.Sprint("empty ", at, e)
	}
	for _, y := range append(s.Active(), 0) {
		for r := range s.Scan(y, "t") {
			out += fmt.Sprint(" ", y, r)
		}
	}
	return out
}
