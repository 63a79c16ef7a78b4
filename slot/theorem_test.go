package slot_test

import (
	"fmt"
	"math/rand"
	"slices"
	"strings"
	"testing"

	"confluence/api"
	"confluence/files"
	"confluence/slot"
)

func TestExamples(t *testing.T) {
	x := one("a", 9000, 8192)
	d, s := begun(t, room)
	knows(t, s)
	costs(t, d, 4, "example 1", func() { is(t, "example 1", s.Create(x), api.OK) })
	knows(t, s, x)
	if n, any := s.Least(); n != 8192 || !any {
		t.Errorf("example 1: Least: %d, %t", n, any)
	}
	left, leftSlots := begun(t, room)
	is(t, "Create", left.Create("slots.new"), api.OK)
	costs(t, left, 5, "example 1", func() { is(t, "example 1", leftSlots.Create(x), api.OK) })

	is(t, "example 2", s.Advance("a", 8999, 8192), api.ErrSlotBack)
	costs(t, d, 0, "example 2", func() { is(t, "example 2", s.Advance("a", 9000, 8192), api.OK) })
	is(t, "example 2", s.Advance("a", 9500, 9400), api.OK)
	is(t, "example 2", s.Advance("a", 9500, 9600), api.ErrArg)
	is(t, "example 2", s.Advance("b", 0, 0), api.ErrSlotNone)
	knows(t, s, one("a", 9500, 9400))

	opensNot(t, "example 3", loaded(t, room, slotsFile("SL")), api.ErrSlotForm)
}

// fate is what a disk is told ahead of a call: the act in which it dies, the Sync that fails.
type fate struct{ arm, failSync int }

func fates() []fate {
	var l []fate
	for arm := range 7 {
		for failSync := range 3 {
			l = append(l, fate{arm, failSync})
		}
	}
	return l
}

// eitherWay opens behind a crash: the slots ahead of the call, or behind it; behind it, if it answered OK; and the same again, with no act.
func eitherWay(t *testing.T, what string, d *files.Disk, e api.Errno, ahead, behind []api.Slot) {
	t.Helper()
	found := opened(t, d).List()
	if !sameAll(found, behind) && (e == api.OK || !sameAll(found, ahead)) {
		t.Errorf("%s answered %d; behind it there are %+v", what, e, found)
	}
	costs(t, d, 0, "Open behind an Open", func() { finds(t, d, found...) })
	if n := len(d.List()); n > 1 {
		t.Errorf("the files are %q", d.List())
	}
}

// TestL6EachCrash: each call that writes, with each fate, in much and in little room, and each number of bytes that stay.
func TestL6EachCrash(t *testing.T) {
	for _, c := range deeds() {
		both := len(fileOf(c.ahead...)) + len(fileOf(c.behind...))
		for _, left := range []*string{nil, &leftovers()[0], &leftovers()[2]} {
			for _, f := range fates() {
				for _, capacity := range []int{room, both - 10} {
					everyCut(t, c, left, f, capacity)
				}
			}
		}
	}
}

func everyCut(t *testing.T, c deed, left *string, f fate, capacity int) {
	t.Helper()
	for keep := 0; ; keep += 1 + keep/3 {
		d, s := ready(t, c, max(capacity, len(fileOf(c.ahead...))+len(leftovers()[2])), left)
		is(t, "Arm", d.Arm(f.arm), api.OK)
		is(t, "FailSync", d.FailSync(f.failSync), api.OK)
		e := c.call(s)
		if e == api.OK {
			knows(t, s, c.behind...)
		} else {
			knows(t, s, c.ahead...)
		}
		most := d.Pending("slots.new")
		crash(t, d, keep)
		eitherWay(t, fmt.Sprint(c.what, " ", f), d, e, c.ahead, c.behind)
		if keep >= most {
			return
		}
	}
}

// TestL6EachByte: of what was written aside and not synced each number of bytes stays.
func TestL6EachByte(t *testing.T) {
	c := deeds()[2]
	for keep := range len(fileOf(c.behind...)) + 1 {
		for _, f := range []fate{{3, 0}, {0, 1}} {
			d, s := ready(t, c, room, nil)
			is(t, "Arm", d.Arm(f.arm), api.OK)
			is(t, "FailSync", d.FailSync(f.failSync), api.OK)
			e := c.call(s)
			crash(t, d, keep)
			holds(t, d, filesOf(c.ahead, asideFile(fileOf(c.behind...)[:keep]))...)
			eitherWay(t, c.what, d, e, c.ahead, c.behind)
			finds(t, d, c.ahead...)
		}
	}
}

// TestL6CrashInOpen: an Open that dies, behind a call that died, changes nothing of what is found.
func TestL6CrashInOpen(t *testing.T) {
	for _, c := range deeds() {
		for arm := 1; arm <= 4; arm++ {
			d, s := ready(t, c, room, nil)
			is(t, "Arm", d.Arm(arm), api.OK)
			is(t, c.what, c.call(s), api.ErrDead)
			for range 3 {
				crash(t, d, 30)
				is(t, "Arm", d.Arm(1), api.OK)
				if arm > 1 {
					opensNot(t, "it dies", d, api.ErrDead)
				} else {
					finds(t, d, c.ahead...)
				}
			}
			crash(t, d, 0)
			finds(t, d, c.ahead...)
			holds(t, d, filesOf(c.ahead)...)
		}
	}
}

// call is a random one: how it is done, and which slots it would make of others.
type call struct {
	what string
	do   func(s *slot.Slots) api.Errno
	make func(l []api.Slot) []api.Slot
}

func someCall(source *rand.Rand) call {
	name := string(rune('a' + source.Intn(10)))
	confirmed := first + source.Intn(2000)
	restart := first + source.Intn(confirmed-first+1)
	at := func(l []api.Slot) int {
		return slices.IndexFunc(l, func(x api.Slot) bool { return x.Name == name })
	}
	switch source.Intn(5) {
	case 0, 1:
		x := one(name, confirmed, restart)
		return call{"Create " + name, func(s *slot.Slots) api.Errno { return s.Create(x) }, func(l []api.Slot) []api.Slot {
			if at(l) >= 0 || len(l) >= 8 {
				return l
			}
			l = append(slices.Clone(l), x)
			slices.SortFunc(l, func(a, b api.Slot) int { return strings.Compare(a.Name, b.Name) })
			return l
		}}
	case 2, 3:
		return call{"Advance " + name, func(s *slot.Slots) api.Errno { return s.Advance(name, confirmed, restart) }, func(l []api.Slot) []api.Slot {
			if i := at(l); i >= 0 && confirmed >= l[i].Confirmed && restart >= l[i].Restart {
				return with(l, i, confirmed, restart)
			}
			return l
		}}
	default:
		return call{"Drop " + name, func(s *slot.Slots) api.Errno { return s.Drop(name) }, func(l []api.Slot) []api.Slot {
			return slices.DeleteFunc(slices.Clone(l), func(x api.Slot) bool { return x.Name == name })
		}}
	}
}

// TestL6Scripts: random calls, deaths, syncs that fail, room that runs out and crashes, one behind the other, the slots opened anew or not.
func TestL6Scripts(t *testing.T) {
	source := rand.New(rand.NewSource(6))
	crashes := 0
	for range 300 {
		d, s := begun(t, []int{room, 1500, 700}[source.Intn(3)])
		var now []api.Slot
		for range 60 {
			if source.Intn(3) == 0 && !d.Dead() {
				d.Arm(source.Intn(12))
				d.FailSync(source.Intn(5))
			}
			c := someCall(source)
			ahead, behind := now, c.make(now)
			e := c.do(s)
			if e == api.OK {
				now = behind
			}
			knows(t, s, now...)
			if !d.Dead() && source.Intn(6) > 0 {
				continue
			}
			crashes++
			crash(t, d, source.Intn(300))
			if source.Intn(3) == 0 {
				continue
			}
			eitherWay(t, c.what, d, e, ahead, behind)
			s = opened(t, d)
			now = s.List()
		}
		if t.Failed() {
			return
		}
	}
	if crashes < 1000 {
		t.Errorf("only %d crashes", crashes)
	}
}

// TestL6NeverFalls: whatever is called and whenever it dies, a slot's places never fall while it is there.
func TestL6NeverFalls(t *testing.T) {
	source := rand.New(rand.NewSource(7))
	rises := 0
	for range 100 {
		d, s := begun(t, []int{room, 1500}[source.Intn(2)])
		seen := map[string][2]int{}
		for range 80 {
			d.Arm(source.Intn(15))
			d.FailSync(source.Intn(6))
			c := someCall(source)
			if e := c.do(s); e == api.OK && strings.HasPrefix(c.what, "Drop") {
				delete(seen, strings.TrimPrefix(c.what, "Drop "))
			}
			if d.Dead() {
				crash(t, d, source.Intn(200))
				s = opened(t, d)
			}
			for _, x := range s.List() {
				was, is := seen[x.Name]
				if x.Confirmed < was[0] || x.Restart < was[1] {
					t.Fatalf("behind %s: %s was at %v, and is at %d, %d", c.what, x.Name, was, x.Confirmed, x.Restart)
				}
				if is && was != [2]int{x.Confirmed, x.Restart} {
					rises++
				}
				seen[x.Name] = [2]int{x.Confirmed, x.Restart}
			}
		}
	}
	if rises < 200 {
		t.Errorf("only %d rises", rises)
	}
}
