package copying_test

import (
	"fmt"
	"testing"

	"confluence/api"
	"confluence/copying"
)

// doubtDesk is a store with both local tables, on a disk with so much room; an origin was followed already, and a transaction is open.
func doubtDesk(t *testing.T, capacity int) *desk {
	t.Helper()
	k := on(t, formatted(t, capacity))
	k.create("t", 0, "id i", "name t?")
	k.create("u", 0, "id t", "n i?")
	k.create("own", 0, "id i")
	_, e := k.s.CommitFrom(k.writes("own", r(1)), "pub", 8300)
	k.ok(e)
	return k
}

const (
	rowsOfT = "(1, 'a') (2, null)"
	rowsOfU = "('', null) ('x', 1)"
)

// acts of the copy of two: its beginning, four rows, its commit and the Sync of that.
const acts = 7

func (k *desk) tries() (int, api.Errno) {
	k.t.Helper()
	return copying.Import(k.s, "pub", laid(k.t, copyOfTwo()...))
}

// inDoubt: each call answers so, but where it names another error first.
func (k *desk) inDoubt(want api.Errno) {
	k.t.Helper()
	for range 2 {
		k.refuses(want, copyOfTwo()...)
		k.refuses(want, whole()...)
		k.refuses(want, whole(head(told(7, "none", "id i")))...)
		k.refuses(api.ErrCopyForm, whole(row(9, 1, "a"))...)
		k.refuses(api.ErrCopyForm)
		k.refusesOf("A", api.ErrArg)
		k.exportsNot(all("t"), want)
		k.exportsNot(pub(), api.ErrPublishForm)
	}
}

// stands holds that all of the copy is there, or nothing of it.
func (k *desk) stands(there bool) {
	k.t.Helper()
	want := []string{"", "", "8300"}
	if there {
		want = []string{rowsOfT, rowsOfU, "9000"}
	}
	k.is("what is there", fmt.Sprintf("%q", []string{k.rows("t"), k.rows("u"), fmt.Sprint(k.s.Origin("pub"))}), fmt.Sprintf("%q", want))
	k.is("who is open", k.s.Active(), []int{})
	k.has("own", "(1)")
}

// takesAnew takes the copy, unless it is there.
func (k *desk) takesAnew() {
	k.t.Helper()
	if k.s.Origin("pub") == 9000 {
		k.refuses(api.ErrCopyThere, copyOfTwo()...)
	} else {
		k.imports(4, copyOfTwo()...)
	}
	k.stands(true)
}

func TestActs(t *testing.T) {
	k := doubtDesk(t, room)
	k.is("acts", k.acting(func() { k.imports(4, copyOfTwo()...) }), acts)
	k = doubtDesk(t, room)
	k.is("acts of none", k.acting(func() { k.imports(0, whole()...) }), 3)
	k = doubtDesk(t, room)
	k.put("t", r(1, "a"))
	k.is("acts of what is refused", k.acting(func() {
		k.refuses(api.ErrCopyThere, copyOfTwo()...)
		k.refuses(api.ErrCopyForm)
		k.refuses(api.ErrCopyTable, whole(head(told(9, "none", "id i")))...)
	}), 0)
}

// TestDies: a disk that dies in each act, with whatever is cut off behind it: all rows are there, or none.
func TestDies(t *testing.T) {
	for act := 1; act <= acts; act++ {
		for tenths := range 11 {
			k := doubtDesk(t, room)
			k.ok(k.d.Arm(act))
			n, e := k.tries()
			k.is(fmt.Sprint("what is answered in act ", act), []int{n, int(e)}, []int{0, int(api.ErrDead)})
			k.is("in doubt", k.s.Doubt(), true)
			k.inDoubt(api.ErrDead)
			old := *k
			k.crashKeeping(tenths)
			old.inDoubt(api.ErrStoreDoubt)
			k.stands(act == acts && tenths == 10) // the commit's record is whole then
			k.takesAnew()
			k.crash()
			k.stands(true)
		}
	}
	k := doubtDesk(t, room)
	k.ok(k.d.Arm(acts + 1))
	k.imports(4, copyOfTwo()...)
	k.stands(true)
}

// TestFails: a Sync that fails: ErrStoreDoubt; the disk lives.
func TestFails(t *testing.T) {
	for tenths := range 11 {
		k := doubtDesk(t, room)
		k.ok(k.d.FailSync(1))
		n, e := k.tries()
		k.is("what is answered", []int{n, int(e)}, []int{0, int(api.ErrStoreDoubt)})
		k.inDoubt(api.ErrStoreDoubt)
		k.ok(k.d.Arm(1))
		k.is("another act", k.d.Create("probe"), api.ErrDead)
		k.inDoubt(api.ErrDead) // the disk is asked anew each time
		k.crashKeeping(tenths)
		k.stands(tenths == 10)
		k.takesAnew()
	}
}

// TestFull: a disk without room for what comes, in each act that wants some.
func TestFull(t *testing.T) {
	met := map[int]bool{}
	needed := room - doubtDesk(t, room).d.Free()
	for spare := range 400 {
		k := doubtDesk(t, needed+spare)
		end := k.s.Log().End()
		n, e := k.tries()
		if e == api.OK {
			k.is("how many rows", n, 4)
			k.stands(true)
			break
		}
		met[len(k.logged(end))] = true
		k.is("what is answered", []int{n, int(e)}, []int{0, int(api.ErrStoreDoubt)})
		k.inDoubt(api.ErrStoreDoubt)
		k.crash() // only what does not last has taken room
		k.stands(false)
	}
	for logged := range acts - 1 {
		if !met[logged] {
			t.Errorf("it was never full behind %d records", logged)
		}
	}
}

// TestTurn: a copy whose records begin new segments, with a disk that dies in each act: those of a turn among them.
func TestTurn(t *testing.T) {
	l := []api.Message{from(9000), head(told(9, "t", "id i", "name t?"))}
	for i := range 60 {
		l = append(l, row(9, i, full))
	}
	l = append(l, to(9000))
	k := doubtDesk(t, room)
	many := k.acting(func() { k.imports(60, l...) })
	if many < 60+3+3 {
		t.Errorf("only %d acts", many)
	}
	want := k.rows("t")
	for act := 1; act <= many; act++ {
		for _, tenths := range []int{0, 10} {
			k := doubtDesk(t, room)
			k.ok(k.d.Arm(act))
			n, e := copying.Import(k.s, "pub", laid(t, l...))
			k.is(fmt.Sprint("what is answered in act ", act), []int{n, int(e)}, []int{0, int(api.ErrDead)})
			k.crashKeeping(tenths)
			there := act == many && tenths == 10
			k.is(fmt.Sprint("whether it is there, act ", act), k.rows("t") == want && k.s.Origin("pub") == 9000, there)
			k.is("whether it is not", k.rows("t") == "" && k.s.Origin("pub") == 8300, !there)
			if !there {
				k.imports(60, l...)
			}
			k.has("t", want)
		}
	}
	// The Sync of a turn fails.
	k = doubtDesk(t, room)
	k.ok(k.d.FailSync(1))
	n, e := copying.Import(k.s, "pub", laid(t, l...))
	k.is("what is answered", []int{n, int(e)}, []int{0, int(api.ErrStoreDoubt)})
	k.crashKeeping(10)
	k.stands(false)
}

// TestAbortRefused: where the disk dies in the Abort of what is refused, the error that came first is told.
func TestAbortRefused(t *testing.T) {
	for _, c := range []struct {
		l    []api.Message
		want api.Errno
	}{
		{whole(head(nine()), row(9, 1, "a"), row(9, 7, "b")), api.ErrCopyThere},
		{whole(head(nine()), row(9, 1, "a"), head(told(8, "v", "id i", "n i?")), row(8, 1, nil)), api.ErrCopyTable},
	} {
		k := doubtDesk(t, room)
		k.create("v", 0, "id i", "n i")
		k.writes("t", r(7, "g"))
		k.ok(k.d.Arm(3)) // the beginning, a row
		n, e := copying.Import(k.s, "pub", laid(t, c.l...))
		k.is("what is answered", []int{n, int(e)}, []int{0, int(c.want)})
		k.is("whether it is dead, and known to be", []bool{k.d.Dead(), k.s.Doubt()}, []bool{true, true})
		k.inDoubt(api.ErrDead)
		k.crashKeeping(10)
		k.stands(false)
	}
}

// TestDoubtOfOthers: a store that came into doubt in what others did.
func TestDoubtOfOthers(t *testing.T) {
	for _, dead := range []bool{true, false} {
		k := doubtDesk(t, room)
		want := api.ErrStoreDoubt
		if dead {
			k.ok(k.d.Arm(1))
			want = api.ErrDead
		} else {
			k.ok(k.d.FailSync(1))
		}
		if _, e := k.s.CreateTable("x", columns("id i"), 0); e != want {
			t.Fatalf("CreateTable: %d", e)
		}
		k.inDoubt(want)
		k.ok(k.d.Crash(nil))
		k.inDoubt(api.ErrStoreDoubt)
		k = on(t, k.d)
		k.stands(false)
		k.imports(4, copyOfTwo()...)
	}
}

// TestDeadUnnoticed: a disk that died of what others did, of which the store knows nothing yet: only what asks it is refused.
func TestDeadUnnoticed(t *testing.T) {
	k := doubtDesk(t, room)
	k.put("own", r(2))
	k.ok(k.d.Arm(1))
	k.is("another act", k.d.Create("probe"), api.ErrDead)
	k.exports(all("own"), "from own.3.1(id*) 3(1) 3(2) to")
	k.refuses(api.ErrCopyForm)
	k.refuses(api.ErrCopyTable, whole(head(told(7, "none", "id i")))...)
	k.refuses(api.ErrCopyThere, whole(head(told(7, "own", "id i")))...)
	k.is("in doubt", k.s.Doubt(), false)
	n, e := k.tries()
	k.is("what is answered", []int{n, int(e)}, []int{0, int(api.ErrDead)})
	k.inDoubt(api.ErrDead)
}
