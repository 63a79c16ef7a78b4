package apply_test

import (
	"fmt"
	"testing"

	"confluence/api"
)

// each has one of each kind of messages that go within a transaction, at 9000.
func each() []api.Message {
	return []api.Message{head(nine()), insert(9, 1, "a"), update(9, r(1, "a"), r(1, "b")), remove(9, 1, nil), emptied(9), commit(5, 9000, 9020)}
}

// never are those that go nowhere.
func never() []api.Message {
	return []api.Message{mark(api.MsgCopy, 1), mark(api.MsgCopied, 1), mark(api.MsgCopy, 9000), mark(api.MsgCopied, top)}
}

// TestOutside: but for MsgBegin nothing goes there, and nothing comes of it: nobody has ever begun, or one was committed, passed over, or has failed.
func TestOutside(t *testing.T) {
	for i, made := range []func(*desk){
		func(*desk) {},
		func(k *desk) { k.takes(whole(1, 8300, head(nine()), insert(9, 1, "a"))...) },
		func(k *desk) { k.takes(append(whole(1, 8300), whole(1, 8300, head(nine()))...)...) },
		func(k *desk) {
			k.takes(begin(1, 8300), head(nine()), insert(9, 1, "a"))
			k.fails(commit(2, 8300, 8320), api.ErrApplyOrder)
		},
	} {
		k := newDesk(t)
		made(k)
		for range 2 {
			for _, m := range append(each(), never()...) {
				k.idly(m, api.ErrApplyOrder)
				k.is(fmt.Sprint("inside, ", i), k.a.Inside(), false)
			}
		}
		k.takes(begin(5, 9000))
		k.is("inside", k.a.Inside(), true)
	}
}

// TestInside: each kind of messages that go there is taken, in whatever order tables and rows come.
func TestInside(t *testing.T) {
	k := newDesk(t)
	k.takes(begin(5, 9000))
	k.stands(0, api.Tally{}, true)
	k.takes(each()[:5]...)
	k.takes(each()[:5]...)
	k.stands(0, api.Tally{}, true)
	k.takes(each()[5])
	k.stands(9020, tally(1, 2, 2, 2, 0), false)
}

// TestWithinRefused: MsgBegin, MsgCopy and MsgCopied go nowhere within a transaction; it goes on as if they had not come.
func TestWithinRefused(t *testing.T) {
	k := newDesk(t)
	wrong := append(never(), begin(5, 9000), begin(6, 9100), begin(1, 1))
	all := each()
	k.takes(begin(5, 9000))
	for i, m := range all {
		for _, x := range wrong {
			k.idly(x, api.ErrApplyOrder)
		}
		if i == 0 || i == len(all)-1 {
			k.takes(m)
		} else {
			k.takes(m, insert(9, 7, "g"))
		}
	}
	k.stands(9020, tally(1, 3, 3, 2, 0), false)
	k.has("t", "(7, 'g', null)")
}

// TestPassedOver: of a transaction that is passed over nothing is done, whatever its tables and rows are; its places are the same.
func TestPassedOver(t *testing.T) {
	k := newDesk(t)
	k.takes(whole(1, 8900, head(nine()), insert(9, 7, "g"))...)
	k.takes(whole(1, 9000)...)
	stays := tally(2, 1, 0, 0, 0)
	k.stands(9020, stays, false)
	inside := append(each()[:5], insert(8, 1), insert(9, 1), insert(9, 1, 2, 3, 4, 5, 6, 7, 8), update(9, r(1, 1), r(2, 2)), update(9, r(1), r(1, 1)), remove(9, "x", "y"), emptied(last), head(told(9, "none", "id i")), head(told(9, "t", "name t")))
	for range 3 {
		k.idlyTaken(begin(5, 9000))
		k.stands(9020, stays, true)
		for _, m := range inside {
			k.idlyTaken(m)
			for _, x := range append(never(), begin(5, 9000), begin(6, 9100)) {
				k.idly(x, api.ErrApplyOrder)
			}
			k.stands(9020, stays, true)
		}
		k.idlyTaken(commit(5, 9000, 9020))
		k.stands(9020, stays, false)
	}
	k.has("t", "(7, 'g', null)")
}

// idlyTaken: a message that is OK, and of which nothing is logged, and no act is done.
func (k *desk) idlyTaken(m api.Message) {
	k.t.Helper()
	before := fmt.Sprint(k.kept(), k.s.Active(), bytesOf(k.d))
	k.takes(m)
	if after := fmt.Sprint(k.kept(), k.s.Active(), bytesOf(k.d)); after != before {
		k.t.Errorf("%+v has changed something: %s, was %s", m, after, before)
	}
}

// TestPlaces: a transaction is passed over just if its place is below Progress when it begins.
func TestPlaces(t *testing.T) {
	for lsn, over := range map[int]bool{1: true, 8192: true, 9018: true, 9019: true, 9020: false, 9021: false, 9500: false, top - 1: false} {
		k := newDesk(t)
		k.takes(whole(1, 9000)...)
		k.takes(begin(5, lsn))
		k.is(fmt.Sprint("how many are open behind ", lsn), len(k.s.Active()), map[bool]int{true: 0, false: 1}[over])
		k.takes(head(nine()), insert(9, 1, "a"), commit(5, lsn, lsn+1))
		if over {
			k.has("t", "")
			k.stands(9020, tally(1, 0, 0, 0, 0), false)
		} else {
			k.has("t", "(1, 'a', null)")
			k.stands(lsn+1, tally(2, 1, 0, 0, 0), false)
		}
	}
}

// TestPlacesOfNobody: an origin that was never followed is at 0: nothing is passed over; and what others follow counts for nothing.
func TestPlacesOfNobody(t *testing.T) {
	k := newDesk(t)
	k.beside("other").takes(whole(1, 9000)...)
	k.takes(begin(5, 1), head(nine()), insert(9, 1, "a"), commit(5, 1, 2))
	k.has("t", "(1, 'a', null)")
	k.stands(2, tally(1, 1, 0, 0, 0), false)
}

// TestPlaceOfTheBeginning: whether one is passed over is asked when it begins, whatever Progress is behind that.
func TestPlaceOfTheBeginning(t *testing.T) {
	k := newDesk(t)
	follow := func(lsn int) {
		x, e := k.s.Begin()
		_, f := k.s.CommitFrom(x, "pub", lsn)
		k.ok(e, f)
	}
	follow(100)
	k.takes(begin(5, 9000))
	follow(9500)
	k.stands(9500, api.Tally{}, true)
	k.takes(head(nine()), insert(9, 1, "a"), commit(5, 9000, 9020))
	k.stands(9020, tally(1, 1, 0, 0, 0), false)
	k.has("t", "(1, 'a', null)")
	k.takes(begin(6, 9019))
	follow(50)
	k.takes(head(nine()), insert(9, 2, "b"), commit(6, 9019, 9040))
	k.stands(50, tally(1, 1, 0, 0, 0), false)
	k.has("t", "(1, 'a', null)")
	k.takes(whole(7, 50, head(nine()), insert(9, 2, "b"))...)
	k.stands(70, tally(2, 2, 0, 0, 0), false)
}

// TestCommitOfAnother: a MsgCommit of another number or place lets the transaction fail, passed over or not.
func TestCommitOfAnother(t *testing.T) {
	for _, m := range []api.Message{commit(6, 9000, 9020), commit(4, 9000, 9020), commit(last, 9000, 9020), commit(5, 9001, 9020), commit(5, 8999, 9020), commit(5, 1, 9020), commit(5, top-1, top), commit(9000, 5, 9020)} {
		k := newDesk(t)
		k.takes(whole(1, 8300, head(nine()), insert(9, 7, "g"))...)
		k.takes(begin(5, 9000), head(nine()), insert(9, 1, "a"))
		k.fails(m, api.ErrApplyOrder)
		k.idly(commit(5, 9000, 9020), api.ErrApplyOrder)
		k.stands(8320, tally(1, 1, 0, 0, 0), false)
		k.takes(whole(5, 9000, head(nine()), insert(9, 1, "a"))...)
		k.takes(begin(5, 9000))
		k.failsPassedOver(m, api.ErrApplyOrder)
		k.idly(commit(5, 9000, 9020), api.ErrApplyOrder)
		k.stands(9020, tally(2, 2, 0, 0, 0), false)
	}
}

// TestCommitNotes: what is noted is the End, wherever it is, also below Progress; the local transaction is one, with one commit.
func TestCommitNotes(t *testing.T) {
	k := newDesk(t)
	k.logs("begin 2; insert 2 table 1 (1, 'a', null); commit 2 from pub at 8320", whole(5, 8300, head(nine()), insert(9, 1, "a"))...)
	k.logs("begin 3; commit 3 from pub at 819208192", begin(last, 9000), commit(last, 9000, top))
	k.stands(top, tally(2, 1, 0, 0, 0), false)
	k.beside("other").logs("begin 4; commit 4 from other at 2", begin(1, 1), commit(1, 1, 2))
	k.crash()
	k.stands(top, api.Tally{}, false)
	k.is("the other one", k.s.Origin("other"), 2)
	k.has("t", "(1, 'a', null)")
}
