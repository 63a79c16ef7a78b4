package store_test

import (
	"fmt"
	"math"
	"slices"
	"strings"
	"testing"

	"confluence/api"
)

// busy is a store with something of all: the table v that nobody writes, 13 and 15 active, w waits.
func busy(t *testing.T) *desk {
	t.Helper()
	k := filled(t)
	_, e := k.s.CreateTable("v", two, 0) // 11
	k.ok(e)
	x := k.begin() // 12
	k.ok(k.s.Insert(x, "v", r(1, "v")))
	k.commit(x)
	x = k.begin() // 13
	k.ok(k.s.Savepoint(x, "s"), k.s.Insert(x, "t", r(20)))
	y := k.begin() // 15
	z := k.begin() // 16
	k.ok(k.s.Insert(z, "u", r(nil, "w")), k.s.Prepare(z, "w"))
	if x != 13 || y != 15 || z != 16 {
		t.Fatalf("the numbers are %d, %d, %d", x, y, z)
	}
	return k
}

// picture is all that lasts of a store, as far as its calls tell it.
func (k *desk) picture() string {
	out := k.told()
	for _, t := range k.s.Tables() {
		out += t.Name + ": " + k.rows(0, t.Name) + "; "
	}
	return out + fmt.Sprint(k.s.Prepared(), k.s.Origin("a"), k.s.Origin("pub"), k.s.Origin("new"))
}

// call is one of a busy store, with its acts: so many that log something, and then a Sync, or none.
type call struct {
	what string
	do   func(*desk) (int, api.Errno)
	logs int
	sync bool
}

// none makes a call that tells an error alone one that tells a number, too.
func none(do func(*desk) api.Errno) func(*desk) (int, api.Errno) {
	return func(k *desk) (int, api.Errno) { return 0, do(k) }
}

// calls are all that log something.
var calls = []call{
	{"Begin", func(k *desk) (int, api.Errno) { return k.s.Begin() }, 1, false},
	{"Insert", none(func(k *desk) api.Errno { return k.s.Insert(13, "t", r(21)) }), 1, false},
	{"Update", none(func(k *desk) api.Errno { return k.s.Update(13, "t", r(2)) }), 1, false},
	{"Delete", none(func(k *desk) api.Errno { return k.s.Delete(13, "t", v(2)) }), 1, false},
	{"Savepoint", none(func(k *desk) api.Errno { return k.s.Savepoint(13, "q") }), 1, false},
	{"RollbackTo", none(func(k *desk) api.Errno { return k.s.RollbackTo(13, "s") }), 2, false},
	{"Release", none(func(k *desk) api.Errno { return k.s.Release(13, "s") }), 1, false},
	{"Commit", func(k *desk) (int, api.Errno) { return k.s.Commit(13) }, 1, true},
	{"CommitFrom", func(k *desk) (int, api.Errno) { return k.s.CommitFrom(13, "new", 5) }, 1, true},
	{"Abort", none(func(k *desk) api.Errno { return k.s.Abort(13) }), 1, false},
	{"Prepare", none(func(k *desk) api.Errno { return k.s.Prepare(13, "x") }), 1, true},
	{"CommitPrepared", func(k *desk) (int, api.Errno) { return k.s.CommitPrepared("w") }, 1, true},
	{"AbortPrepared", none(func(k *desk) api.Errno { return k.s.AbortPrepared("w") }), 1, true},
	{"CreateTable", func(k *desk) (int, api.Errno) { return k.s.CreateTable("x", two, 0) }, 1, true},
	{"DropTable", func(k *desk) (int, api.Errno) { return k.s.DropTable("v") }, 1, true},
	{"WidenTable", func(k *desk) (int, api.Errno) { return k.s.WidenTable("v", more) }, 1, true},
	{"EmptyTable", func(k *desk) (int, api.Errno) { return k.s.EmptyTable("v") }, 1, true},
}

// doubtful holds all that a store in doubt answers, whatever it is asked.
func (k *desk) doubtful(want api.Errno) {
	k.t.Helper()
	s := k.s
	for _, x := range []int{13, 15, 0, 99, -1} {
		for _, name := range []string{"t", "s", "w", "", "A"} {
			for i, e := range []api.Errno{
				s.Insert(x, name, r(50)), s.Insert(x, name, nil), s.Update(x, name, r(2)), s.Delete(x, name, v(2)), s.Delete(x, name, v(nil)),
				s.Savepoint(x, name), s.RollbackTo(x, name), s.Release(x, name), s.Abort(x), s.Prepare(x, name), s.AbortPrepared(name),
			} {
				if e != want {
					k.t.Errorf("call %d of a store in doubt, of %d and %q: %d, want %d", i, x, name, e, want)
				}
			}
			for i, call := range []func() (int, api.Errno){
				s.Begin, s.Checkpoint,
				func() (int, api.Errno) { return s.Commit(x) },
				func() (int, api.Errno) { return s.CommitFrom(x, name, x) },
				func() (int, api.Errno) { return s.CommitPrepared(name) },
				func() (int, api.Errno) { return s.CreateTable(name, two, x) },
				func() (int, api.Errno) { return s.DropTable(name) },
				func() (int, api.Errno) { return s.WidenTable(name, more) },
				func() (int, api.Errno) { return s.EmptyTable(name) },
				func() (int, api.Errno) { return s.Trim(x) },
				func() (int, api.Errno) { row, e := s.Get(x, name, v(2)); return len(row), e },
				func() (int, api.Errno) { row, e := s.Get(x, name, v(nil)); return len(row), e },
			} {
				if n, e := call(); n != 0 || e != want {
					k.t.Errorf("call %d of a store in doubt, of %d and %q: %d, %d, want %d", i, x, name, n, e, want)
				}
			}
			k.is("Scan in doubt", k.rows(x, name), "")
			k.is("Origin in doubt", s.Origin(name), 0)
		}
	}
	k.is("lists in doubt", fmt.Sprint(len(s.Tables()), len(s.Prepared()), len(s.Active()), s.Based(), s.Origin("a"), s.Origin("pub")), "0 0 0 0 0 0")
	k.is("Doubt", s.Doubt(), true)
	if s.Disk() != k.d || s.Log() == nil {
		k.t.Error("Disk or Log is another one")
	}
}

// TestDoubtDies: at each act of each call the disk dies; what is there behind a crash is what was, or, where the record is
// whole, what the call did.
func TestDoubtDies(t *testing.T) {
	for _, c := range calls {
		acts := c.logs
		if c.sync {
			acts++
		}
		costs(t, acts, c.what, func() *desk { return busy(t) }, func(k *desk) { c.do(k) })
		before, after := busy(t), busy(t)
		before.crashKeeping()
		_, e := c.do(after)
		after.ok(e)
		after.crashKeeping()
		for n := 1; n <= acts; n++ {
			for _, keep := range []bool{false, true} {
				k := busy(t)
				k.ok(k.d.Arm(n))
				k.refused(c.what+" that dies", api.ErrDead)(c.do(k))
				k.doubtful(api.ErrDead)
				want := before.picture()
				if keep {
					k.ok(k.d.Crash(pending(k.d)))
					if n > c.logs {
						want = after.picture()
					}
				} else {
					k.ok(k.d.Crash(nil))
				}
				k.doubtful(api.ErrStoreDoubt)
				k.open()
				k.is(fmt.Sprint(c.what, " behind a death in act ", n, ", all kept: ", keep), k.picture(), want)
			}
		}
	}
}

// TestDoubtSync: a Sync that fails; the record is whole, and so what the call did is there when the store is opened anew, unless a crash takes it.
func TestDoubtSync(t *testing.T) {
	for _, c := range calls {
		before, after := busy(t), busy(t)
		before.crash()
		_, e := c.do(after)
		after.ok(e)
		after.crashKeeping()
		k := busy(t)
		k.ok(k.d.FailSync(1))
		_, e = c.do(k)
		if !c.sync {
			k.is(c.what+" asks for no Sync", fmt.Sprint(e, k.s.Doubt()), "0 false")
			continue
		}
		k.is(c.what+" whose Sync fails", e, api.ErrStoreDoubt)
		k.doubtful(api.ErrStoreDoubt)
		k.open()
		k.is(c.what+" behind a Sync that failed", k.picture(), after.picture())
		k = busy(t)
		k.ok(k.d.FailSync(1))
		k.refused(c.what, api.ErrStoreDoubt)(c.do(k))
		k.crash()
		k.is(c.what+" behind a Sync that failed, and a crash", k.picture(), before.picture())
		// A disk that dies later on is told as dead.
		k = busy(t)
		k.ok(k.d.FailSync(1))
		k.refused(c.what, api.ErrStoreDoubt)(c.do(k))
		k.ok(k.d.Arm(1))
		k.d.Create("x")
		k.doubtful(api.ErrDead)
	}
}

// TestDoubtNoRoom: of each call that logs, with no room for its first record, and none for its second one.
func TestDoubtNoRoom(t *testing.T) {
	for _, c := range calls {
		k := busy(t)
		end := k.s.Log().End()
		_, e := c.do(k)
		k.ok(e)
		size := k.s.Log().End() - end // of all that it logs
		before := busy(t)
		before.crashKeeping()
		for _, free := range []int{0, 1, size - 1, size} {
			k := busy(t)
			k.ok(k.d.Create("fill"), k.d.Append("fill", strings.Repeat("x", k.d.Free()-free)))
			_, e := c.do(k)
			if free == size {
				k.is(c.what+" with just enough room", e, api.OK)
				continue
			}
			k.is(c.what+" without room", e, api.ErrStoreDoubt)
			k.doubtful(api.ErrStoreDoubt)
			k.ok(k.d.Remove("fill"))
			k.doubtful(api.ErrStoreDoubt)
			k.open()
			k.is(c.what+" behind that", k.picture(), before.picture())
		}
	}
}

// TestDoubtLate: a disk that was killed by others is told when something is asked of it, not ahead of that.
func TestDoubtLate(t *testing.T) {
	k := busy(t)
	k.ok(k.d.Arm(1))
	k.d.Create("x")
	k.is("Doubt", k.s.Doubt(), false)
	k.is("Insert of none", k.s.Insert(99, "t", r(1)), api.ErrStoreNone)
	k.is("Insert that does not fit", k.s.Insert(13, "t", nil), api.ErrRowFit)
	k.is("Insert of what is there", k.s.Insert(13, "t", r(2)), api.ErrRowThere)
	k.refused("Checkpoint", api.ErrStoreBusy)(k.s.Checkpoint())
	k.refused("DropTable", api.ErrStoreWritten)(k.s.DropTable("t"))
	k.is("Get", k.get(0, "t", 2), "(2, 'y', true)")
	k.is("Prepared", k.s.Prepared(), []string{"w"})
	k.is("Trim of nothing", fmt.Sprint(k.s.Trim(0)), "0 0")
	k.is("Doubt", k.s.Doubt(), false)
	k.is("Abort", k.s.Abort(13), api.ErrDead)
	k.doubtful(api.ErrDead)
	// A log that others have put in doubt is one that refuses.
	k = busy(t)
	k.ok(k.d.FailSync(1))
	k.is("Flush", k.s.Log().Flush(), api.OK) // all lasts: w was prepared
	k.s.Log().Append(encoded(begins(17)))
	k.is("Flush", k.s.Log().Flush(), api.ErrWalDoubt)
	k.is("Get", k.get(0, "t", 2), "(2, 'y', true)")
	k.is("Doubt", k.s.Doubt(), false)
	k.is("Abort", k.s.Abort(13), api.ErrStoreDoubt)
	k.doubtful(api.ErrStoreDoubt)
}

// TestDoubtTurn: a commit whose record begins a new segment has more acts: noughts, a Sync, a Create, the record, a Sync.
func TestDoubtTurn(t *testing.T) {
	made := func() *desk {
		k := atEnd(t, 48) // room for what follows here, and none for a commit
		x := k.begin()
		k.ok(k.s.Insert(x, "t", r(2)))
		k.ok(k.s.Abort(k.begin()))
		return k
	}
	commit := func(k *desk) (int, api.Errno) { return k.s.Commit(3) }
	k := made()
	if left := 16384 - k.s.Log().End(); left < 1 || left > 10 {
		t.Fatalf("%d bytes are left", left)
	}
	costs(t, 5, "Commit", made, func(k *desk) { commit(k) })
	for n := 1; n <= 5; n++ {
		for _, keep := range []bool{false, true} {
			k := made()
			k.ok(k.d.Arm(n))
			k.refused("Commit", api.ErrDead)(commit(k))
			want := "(1, 'a')"
			if keep {
				k.crashKeeping()
				if n == 5 {
					want = "(1, 'a') (2, null)"
				}
			} else {
				k.crash()
			}
			k.sees(0, want)
		}
	}
	for n := 1; n <= 2; n++ {
		k := made()
		k.ok(k.d.FailSync(n))
		k.refused("Commit", api.ErrStoreDoubt)(commit(k))
		k.open()
		k.is("rows", k.rows(0, "t") == "(1, 'a') (2, null)", n == 2)
	}
}

// TestDoubtFull: a log that has no position left refuses as a disk does that has no room.
func TestDoubtFull(t *testing.T) {
	b := baseOf(819200000, checks(3, 2, narrow), nil, nil)
	k := &desk{t: t, d: loaded(t, []api.File{{Name: "base", Bytes: b.bytes()}, {Name: "wal.100000"}})}
	k.open()
	for range 3000 {
		x, e := k.s.Begin()
		if e == api.OK {
			e = k.s.Abort(x)
		}
		if e != api.OK {
			k.is("no position is left", e, api.ErrStoreDoubt)
			k.doubtful(api.ErrStoreDoubt)
			k.open()
			return
		}
	}
	t.Error("the log never ends")
}

// TestS10Nothing: what is refused, but by doubt, has done no act and changed nothing.
func TestS10Nothing(t *testing.T) {
	k := busy(t)
	files, was := bytesOf(t, k.d), k.picture()
	own := k.rows(13, "t")
	k.ok(k.d.Arm(1))
	s := k.s
	for i, call := range []func() api.Errno{
		func() api.Errno { return s.Insert(13, "t", r(2)) },
		func() api.Errno { return s.Insert(15, "t", r(20)) },
		func() api.Errno { return s.Insert(15, "u", r(nil, "w")) },
		func() api.Errno { return s.Insert(13, "t", r(nil)) },
		func() api.Errno { return s.Insert(13, "none", r(1)) },
		func() api.Errno { return s.Update(13, "t", r(99)) },
		func() api.Errno { return s.Update(15, "t", r(20)) },
		func() api.Errno { return s.Delete(13, "t", v(99)) },
		func() api.Errno { return s.Delete(15, "t", v(20)) },
		func() api.Errno { return s.Savepoint(99, "a") },
		func() api.Errno { return s.Savepoint(13, "A") },
		func() api.Errno { return s.RollbackTo(13, "a") },
		func() api.Errno { return s.Release(13, "a") },
		func() api.Errno { return s.Abort(16) },
		func() api.Errno { return s.Prepare(13, "w") },
		func() api.Errno { return s.AbortPrepared("v") },
		func() api.Errno { _, e := s.Commit(16); return e },
		func() api.Errno { _, e := s.CommitFrom(13, "pub", 0); return e },
		func() api.Errno { _, e := s.CommitPrepared("v"); return e },
		func() api.Errno { _, e := s.CreateTable("t", two, 0); return e },
		func() api.Errno { _, e := s.CreateTable("x", two, 1); return e },
		func() api.Errno { _, e := s.DropTable("t"); return e },
		func() api.Errno { _, e := s.DropTable("u"); return e },
		func() api.Errno { _, e := s.WidenTable("t", two[0]); return e },
		func() api.Errno { _, e := s.WidenTable("u", more); return e },
		func() api.Errno { _, e := s.EmptyTable("u"); return e },
		func() api.Errno { _, e := s.Checkpoint(); return e },
		func() api.Errno { _, e := s.Get(13, "t", v(99)); return e },
		func() api.Errno { _, e := s.Trim(math.MaxInt); return e + 1 },
	} {
		if e := call(); e == api.OK || k.d.Dead() {
			t.Fatalf("call %d: %d, dead %v", i, e, k.d.Dead())
		}
	}
	if got := bytesOf(t, k.d); !slices.Equal(got, files) {
		t.Errorf("calls that are refused leave %q", got)
	}
	k.is("the picture", k.picture(), was)
	k.is("one's own", k.rows(13, "t"), own)
	k.is("Active", s.Active(), []int{13, 15})
	k.ok(k.d.Arm(0))
	k.is("Begin", k.begin(), 17)
}
