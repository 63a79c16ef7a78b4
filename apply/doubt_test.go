package apply_test

import (
	"fmt"
	"testing"

	"confluence/api"
)

// story is a transaction that has all kinds of changes, on the rows 1 and 2 of fullDesk; behind it there are other ones.
func story() []api.Message {
	return whole(5, 9000, head(nine()), insert(9, 3, "c"), update(9, r(1, "a"), r(1, "d")), remove(9, 2, nil), remove(9, 7, nil), emptied(9), insert(9, 4, "e"), update(9, r(5, "x"), r(5, "f")))
}

const (
	storyAhead  = "(1, 'a', 'x') (2, 'b', 'y')"
	storyBehind = "(4, 'e', null) (5, 'f', null)"
)

var storyTally = tally(1, 3, 1, 3, 1)

// storyDesk is one on a store with the rows of the story, in which an origin was followed already.
func storyDesk(t *testing.T) *desk {
	t.Helper()
	return storyOn(t, room)
}

func storyOn(t *testing.T, capacity int) *desk {
	t.Helper()
	k := on(t, formatted(t, capacity))
	k.create("t", 0, "id i", "name t?", "more t?")
	k.put("t", r(1, "a", "x"), r(2, "b", "y"))
	k.takes(whole(1, 8300)...)
	return on(t, k.d)
}

// costs are how many acts each message of the story is, of a disk that has room: each record is one, and the commit syncs.
var costs = []int{1, 0, 1, 1, 1, 0, 2, 1, 1, 2}

// TestActs: so many acts and no more.
func TestActs(t *testing.T) {
	for i, want := range costs {
		k := storyDesk(t)
		l := story()
		k.takes(l[:i]...)
		k.ok(k.d.Arm(want + 1))
		k.takes(l[i])
		if k.d.Dead() {
			t.Errorf("%+v: more acts than %d", l[i], want)
		} else if k.d.Create("probe") != api.ErrDead {
			t.Errorf("%+v: fewer acts than %d", l[i], want)
		}
	}
}

// play takes the messages of the story up to one that is refused: its place, and the error; at the end 0.
func (k *desk) play() (int, api.Errno) {
	k.t.Helper()
	l := story()
	for i, s := range laid(k.t, l...) {
		if e := k.a.Take(s); e != api.OK {
			return i, e
		}
	}
	return len(l), api.OK
}

// inDoubt: whatever comes is answered so, and the applier is outside.
func (k *desk) inDoubt(progress int, want api.Errno) {
	k.t.Helper()
	for range 2 {
		for _, m := range append(append(each(), never()...), begin(1, 1), begin(5, 9000)) {
			k.answers(m, want)
			k.is("inside", k.a.Inside(), false)
			k.is("Progress", k.a.Progress(), progress)
		}
	}
}

// TestDies: a disk that dies in each act of the story, with whatever is cut off behind it; opened again, another applier takes it all.
func TestDies(t *testing.T) {
	acts := 0
	for _, n := range costs {
		acts += n
	}
	for act := 1; act <= acts; act++ {
		for _, tenths := range []int{0, 1, 2, 3, 4, 5, 6, 7, 8, 9, 10} {
			k := storyDesk(t)
			k.ok(k.d.Arm(act))
			at, e := k.play()
			k.is(fmt.Sprint("what is answered in act ", act), e, api.ErrDead)
			k.stands(0, api.Tally{}, false) // the store tells nothing
			k.inDoubt(0, api.ErrDead)
			k.ok(k.d.Crash(pending(k.d, tenths)))
			*k = *on(t, k.d)
			if k.a.Progress() == 9020 {
				k.is("the place of a commit that may be there", []int{at, tenths}, []int{9, 10})
				k.has("t", storyBehind)
				k.idlyTaken(story()[0])
				k.takes(story()[1:]...)
				k.stands(9020, api.Tally{}, false)
			} else {
				k.stands(8320, api.Tally{}, false)
				k.has("t", storyAhead)
				k.takes(story()...)
				k.stands(9020, storyTally, false)
			}
			k.has("t", storyBehind)
			k.is("who is open", k.s.Active(), []int{})
		}
	}
}

// TestFails: a Sync that fails: ErrStoreDoubt; the disk lives.
func TestFails(t *testing.T) {
	for _, tenths := range []int{0, 5, 10} {
		k := storyDesk(t)
		k.ok(k.d.FailSync(1))
		at, e := k.play()
		k.is("where it fails", []int{at, int(e)}, []int{9, int(api.ErrStoreDoubt)})
		k.stands(0, api.Tally{}, false)
		k.inDoubt(0, api.ErrStoreDoubt)
		k.ok(k.d.Arm(1))
		if e := k.d.Create("probe"); e != api.ErrDead {
			t.Fatalf("Create: %d", e)
		}
		k.inDoubt(0, api.ErrDead) // the disk is asked anew each time
		k.ok(k.d.Crash(pending(k.d, tenths)))
		k.inDoubt(0, api.ErrStoreDoubt)
		*k = *on(t, k.d)
		if tenths == 10 {
			k.has("t", storyBehind) // the record is whole
			k.stands(9020, api.Tally{}, false)
		} else {
			k.has("t", storyAhead)
			k.takes(story()...)
			k.stands(9020, storyTally, false)
		}
	}
}

// TestFull: a disk without room for what comes: ErrStoreDoubt, at each message of the story that logs something.
func TestFull(t *testing.T) {
	met := map[int]bool{}
	needed := room - storyDesk(t).d.Free()
	for spare := range 400 {
		k := storyOn(t, needed+spare)
		at, e := k.play()
		if e == api.OK {
			k.has("t", storyBehind)
			k.stands(9020, storyTally, false)
			break
		}
		met[at] = true
		k.is("what is answered", e, api.ErrStoreDoubt)
		k.stands(0, api.Tally{}, false)
		k.inDoubt(0, api.ErrStoreDoubt)
		k.ok(k.d.Crash(nil)) // only what does not last has taken room
		*k = *on(t, k.d)
		k.stands(8320, api.Tally{}, false)
		k.has("t", storyAhead)
	}
	for i, acts := range costs {
		if met[i] != (acts > 0) {
			t.Errorf("it was full at message %d: %v", i, met[i])
		}
	}
}

// TestAbortRefused: where the disk dies, or is full, in the Abort of what fails, the error that came first is told.
func TestAbortRefused(t *testing.T) {
	for _, c := range []struct {
		m    api.Message
		want api.Errno
	}{
		{head(told(8, "none", "id i")), api.ErrApplyTable},
		{insert(8, 1), api.ErrApplyOrder},
		{insert(9, 1), api.ErrApplyMessage},
		{insert(9, "x", "y"), api.ErrApplyFailed},
		{update(9, r(1, "a"), r(2, "a")), api.ErrApplyMessage},
		{remove(9, nil, nil), api.ErrApplyFailed},
		{commit(5, 9000, 9020), api.ErrDead},
		{commit(6, 9000, 9020), api.ErrApplyOrder},
	} {
		k := storyDesk(t)
		k.takes(begin(5, 9000), head(nine()), insert(9, 3, "c"))
		k.ok(k.d.Arm(1))
		k.answers(c.m, c.want)
		if !k.d.Dead() || !k.s.Doubt() {
			t.Errorf("behind %+v it lives", c.m)
		}
		k.stands(0, api.Tally{}, false)
		k.inDoubt(0, api.ErrDead)
		k.crashKeeping()
		k.stands(8320, api.Tally{}, false)
		k.has("t", storyAhead)
	}
}

// TestDoubtOfOthers: a store that comes into doubt in what others do: the applier is where it was, till the next message comes.
func TestDoubtOfOthers(t *testing.T) {
	for _, m := range append(append(each(), never()...), begin(1, 1), begin(5, 9000)) {
		for _, inside := range []api.Message{begin(5, 9000), begin(5, 8000)} {
			k := storyDesk(t)
			out := k.beside("out")
			k.takes(inside, head(nine()), insert(9, 1, "z"))
			k.ok(k.d.FailSync(1))
			if _, e := k.s.CreateTable("x", columns("id i"), 0); e != api.ErrStoreDoubt {
				t.Fatalf("CreateTable: %d", e)
			}
			k.stands(0, api.Tally{}, true)
			out.stands(0, api.Tally{}, false)
			k.answers(m, api.ErrStoreDoubt)
			out.answers(m, api.ErrStoreDoubt)
			k.stands(0, api.Tally{}, false)
			out.stands(0, api.Tally{}, false)
			k.inDoubt(0, api.ErrStoreDoubt)
			k.crash()
			k.stands(8320, api.Tally{}, false)
			k.has("t", storyAhead)
		}
	}
}

// TestDeadUnnoticed: a disk that died of what others did, of which the store knows nothing yet: only what asks it is refused.
func TestDeadUnnoticed(t *testing.T) {
	dies := func(k *desk) {
		k.t.Helper()
		k.ok(k.d.Arm(1))
		if e := k.d.Create("probe"); e != api.ErrDead {
			k.t.Fatalf("Create: %d", e)
		}
	}
	k := storyDesk(t)
	dies(k)
	k.takes(begin(5, 8000), insert(9, 1, "z"), commit(5, 8000, 8001))
	k.stands(8320, api.Tally{}, false)
	k.answers(commit(5, 8000, 8001), api.ErrApplyOrder)
	k.answers(begin(5, 9000), api.ErrDead)
	k.stands(0, api.Tally{}, false)
	k = storyDesk(t)
	k.takes(begin(5, 9000))
	dies(k)
	k.takes(head(nine()), remove(9, 7, nil))
	k.stands(8320, api.Tally{}, true)
	k.answers(begin(5, 9000), api.ErrApplyOrder)
	k.answers(remove(9, 1, nil), api.ErrDead)
	k.stands(0, api.Tally{}, false)
}

// TestTallyOfDoubt: what was tallied ahead of the doubt stays; what came into doubt is not counted, though it is there behind it.
func TestTallyOfDoubt(t *testing.T) {
	k := storyDesk(t)
	k.takes(story()...)
	k.takes(begin(6, 9100), head(nine()), insert(9, 1, "a"), remove(9, 9, nil))
	k.ok(k.d.FailSync(1))
	k.answers(commit(6, 9100, 9120), api.ErrStoreDoubt)
	k.stands(0, storyTally, false)
	old := k.a
	k.crashKeeping()
	k.has("t", "(1, 'a', null) "+storyBehind)
	k.stands(9120, api.Tally{}, false)
	k.is("what the old one tells", fmt.Sprint(old.Tally(), old.Inside()), fmt.Sprint(storyTally, false))
}

// TestOldAndNew: behind a crash the old applier's store stays in doubt, whatever the new one does.
func TestOldAndNew(t *testing.T) {
	k := storyDesk(t)
	k.takes(story()[:4]...)
	k.ok(k.d.Arm(1))
	k.answers(insert(9, 1, "a"), api.ErrDead)
	old := *k
	k.crash()
	old.inDoubt(0, api.ErrStoreDoubt)
	k.takes(story()[:5]...)
	old.inDoubt(0, api.ErrStoreDoubt)
	k.takes(story()[5:]...)
	k.stands(9020, storyTally, false)
}
