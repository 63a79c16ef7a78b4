package apply_test

import (
	"fmt"
	"strings"
	"sync"
	"testing"
	"unsafe"

	"confluence/api"
)

// lent is a text in memory that is written over behind the call.
func lent(s string) (string, func()) {
	b := []byte(s)
	return unsafe.String(unsafe.SliceData(b), len(b)), func() {
		for i := range b {
			b[i] = 0xaa
		}
	}
}

// TestMessagesAreNotKept: messages whose memory is written over as soon as they were taken.
func TestMessagesAreNotKept(t *testing.T) {
	k := newDesk(t)
	k.create("u", 0, "id t", "name t?")
	takes := func(l ...api.Message) {
		for i, s := range laid(t, l...) {
			text, spoil := lent(s)
			e := k.a.Take(text)
			spoil()
			if e != api.OK {
				t.Errorf("Take of %+v: %d", l[i], e)
			}
		}
	}
	takes(whole(5, 9000, head(nine()), head(told(8, "u", "id t", "name t?")), insert(9, 1, "some text"), insert(8, "a key", "and a text"), insert(8, "another", full))...)
	takes(whole(6, 9100, head(told(8, "u", "id t", "name t?")), update(8, r("a key", nil), r("a key", "another text")), remove(8, "another", nil), head(nine()), update(9, r(1, "some text"), r(1, "some")))...)
	k.has("t", "(1, 'some', null)")
	k.has("u", "('a key', 'another text')")
	k.stands(9120, tally(2, 3, 2, 1, 0), false)
	k.is("the last commit", k.logged(8192)[len(k.logged(8192))-1], "commit 4 from pub at 9120")
	k.crash()
	k.has("t", "(1, 'some', null)")
	k.has("u", "('a key', 'another text')")
}

// TestApart: appliers of one origin on stores of their own, message by message between one another, have nothing in common.
func TestApart(t *testing.T) {
	a, b := storyDesk(t), storyDesk(t)
	l := story()
	b.takes(l[:2]...)
	for i := range l {
		a.takes(l[i])
		switch {
		case i == 2:
			b.fails(insert(9, "x", "y"), api.ErrApplyFailed)
			b.takes(l[:2]...)
		case i > 2:
			b.takes(l[i-1])
		}
	}
	b.takes(l[len(l)-1])
	a.stands(9020, storyTally, false)
	b.stands(9020, storyTally, false)
	a.has("t", storyBehind)
	b.has("t", storyBehind)
}

// TestAtOneTime: appliers on stores of their own, each in a goroutine.
func TestAtOneTime(t *testing.T) {
	var all sync.WaitGroup
	for n := range 8 {
		k := storyDesk(t)
		all.Go(func() {
			for i := range 30 {
				k.takes(whole(5, 9000+100*i, head(nine()), insert(9, n, "a"), insert(9, i, "b"), remove(9, n, nil))...)
			}
			k.stands(9000+2920, k.a.Tally(), false)
			k.is("how many were applied", k.a.Tally().Whole, 30)
		})
	}
	all.Wait()
}

// TestTellsOnly: Progress, Tally and Inside change nothing, and cost nothing.
func TestTellsOnly(t *testing.T) {
	k := storyDesk(t)
	for _, m := range story() {
		before := bytesOf(k.d)
		ok := k.d.Arm(1)
		for range 3 {
			k.a.Progress()
			k.a.Tally()
			k.a.Inside()
		}
		k.ok(ok, k.d.Arm(1000))
		k.is("the disk", bytesOf(k.d) == before && !k.d.Dead(), true)
		k.takes(m)
	}
	x := k.a.Tally()
	x.Whole, x.Missed = 9, 9
	k.stands(9020, storyTally, false)
}

// TestGreat: a great transaction, and many small ones, in little time.
func TestGreat(t *testing.T) {
	k := newDesk(t)
	k.takes(begin(5, 9000), head(nine()))
	for i := range 20000 {
		k.takes(insert(9, i, "a"))
	}
	k.takes(emptied(9), commit(5, 9000, 9020))
	k.stands(9020, tally(1, 20000, 0, 20000, 0), false)
	k.has("t", "")
	for i := range 5000 {
		k.takes(whole(6, 10000+100*i, head(nine()), insert(9, i%10, fmt.Sprint(i)))...)
	}
	k.stands(10000+100*4999+20, tally(5001, 20010, 4990, 20000, 0), false)
	k.is("rows", strings.Count(k.rows(0, "t"), "'49999'")+strings.Count(k.rows(0, "t"), "(9, '4999', null)"), 1)
}
