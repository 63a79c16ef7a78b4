package publish_test

import (
	"math"
	"testing"

	"confluence/api"
)

func TestU4Begin(t *testing.T) {
	for _, xid := range []int{1, 2, 127, 128, last - 1, last} {
		for _, lsn := range []int{1, 2, 8191, 8192, top - 1} {
			x := made(t, only(15, ""))
			x.begins(xid, lsn, api.OK)
			x.begins(xid, lsn, api.ErrPublishOrder)
			x.tells("as it was begun", thing(), emptied(), api.Message{Kind: api.MsgBegin, Xid: xid, Lsn: lsn}, msgTable(thing()), msgEmpty())
			x.commits(lsn+1, api.Message{Kind: api.MsgCommit, Xid: xid, Lsn: lsn, End: lsn + 1})
			x.begins(xid, lsn, api.OK)
		}
	}
	x := made(t, only(15, ""))
	x.begins(1, top, api.OK)
	x.tells("at the last position", thing(), emptied(), api.Message{Kind: api.MsgBegin, Xid: 1, Lsn: top}, msgTable(thing()), msgEmpty())
	for _, end := range []int{top, top + 1, math.MaxInt, 1, 0, -1} {
		x.stays(end, api.ErrArg)
	}
	x.begins(2, 9000, api.ErrPublishOrder)
}

func TestU4NoBegin(t *testing.T) {
	x := made(t, only(15, ""))
	refused := func() {
		t.Helper()
		for _, xid := range noNumbers {
			x.begins(xid, 9000, api.ErrArg)
		}
		for _, lsn := range noPositions {
			x.begins(5, lsn, api.ErrArg)
			x.begins(0, lsn, api.ErrArg)
		}
	}
	refused()
	x.stays(9000, api.ErrPublishOrder)
	x.begin()
	refused()
	x.begins(6, 9001, api.ErrPublishOrder)
	// It is still the one that was begun first, of which nothing is told.
	x.tells("the first", thing(), emptied(), msgBegin(), msgTable(thing()), msgEmpty())
	refused()
	x.begins(6, 9001, api.ErrPublishOrder)
	x.tells("no second beginning", thing(), emptied(), msgEmpty())
	x.commits(9001, msgCommit(9001))
}

func TestOutside(t *testing.T) {
	x := made(t, only(15, ""))
	outside := func() {
		t.Helper()
		for _, c := range []api.Change{inserted(row(1, "a")), updated(row(1, "a"), row(1, "b")), deleted(row(1, "a")), emptied()} {
			x.refuses("outside", thing(), c, api.ErrPublishOrder)
		}
		// Also of a table that is not published.
		x.refuses("another one", changed(func(x *api.Table) { x.Name = "u" }), emptied(), api.ErrPublishOrder)
		for _, end := range []int{1, 9001, top, 0, -1, top + 1, math.MinInt, math.MaxInt} {
			x.stays(end, api.ErrPublishOrder)
		}
	}
	outside()
	x.begin()
	x.tells("within", thing(), emptied(), msgBegin(), msgTable(thing()), msgEmpty())
	x.commits(9001, msgCommit(9001))
	outside()
	x.begin()
	x.commits(9001)
	outside()
	x.begins(0, 0, api.ErrArg)
	outside()
}

// TestWhichErrorIsFirst: of a Begin and a Change what was handed in is asked first, of a Commit the order.
func TestWhichErrorIsFirst(t *testing.T) {
	x := made(t, only(15, ""))
	x.refuses("a wrong table, outside", api.Table{}, api.Change{Kind: api.RecEmpty}, api.ErrArg)
	x.refuses("a wrong kind, outside", thing(), api.Change{Kind: api.RecBegin, Table: 4}, api.ErrArg)
	x.refuses("another number, outside", thing(), api.Change{Kind: api.RecEmpty, Table: 5}, api.ErrArg)
	x.refuses("a wrong row, outside", thing(), inserted(nil), api.ErrArg)
	x.refuses("another key, outside", thing(), updated(row(1, "a"), row(2, "a")), api.ErrArg)
	x.stays(0, api.ErrPublishOrder)
	x.begin()
	x.begins(0, 9000, api.ErrArg)
	x.begins(5, 0, api.ErrArg)
	x.refuses("of a table that is not published", changed(func(x *api.Table) { x.Name = "u" }), inserted(nil), api.ErrArg)
	x.commits(9001)
}

func TestU6Commit(t *testing.T) {
	for _, told := range []bool{false, true} {
		for _, end := range []int{9001, 9002, 16384, top - 1, top} {
			x := made(t, only(15, ""))
			x.begin()
			var want []api.Message
			if told {
				x.tells("something", thing(), emptied(), msgBegin(), msgTable(thing()), msgEmpty())
				want = append(want, msgCommit(end))
			}
			for _, no := range []int{9000, 8999, 1, 0, -1, top + 1, last, math.MinInt, math.MaxInt} {
				x.stays(no, api.ErrArg)
			}
			x.begins(7, 9000, api.ErrPublishOrder)
			x.commits(end, want...)
			x.stays(end, api.ErrPublishOrder)
		}
	}
}

// TestU6OfNothing: a transaction of which nothing is told has no messages, whatever was changed in it.
func TestU6OfNothing(t *testing.T) {
	x := made(t, only(api.PubInsert, "id > 1"))
	other := changed(func(x *api.Table) { x.Name = "u" })
	for i := range 3 {
		x.begins(5+i, 9000+i, api.OK)
		x.tells("outside of the filter", thing(), inserted(row(1, "a")))
		x.tells("no such kind", thing(), updated(row(1, "a"), row(1, "b")))
		x.tells("no such kind", thing(), deleted(row(5, "a")))
		x.tells("no such kind", thing(), emptied())
		x.tells("another table", other, inserted(row(2, "a")))
		x.refuses("a wrong row", thing(), inserted(nil), api.ErrArg)
		x.commits(9001 + i)
	}
	x.begin()
	x.tells("behind these", thing(), inserted(row(2, "a")), msgBegin(), msgTable(thing()), msgInsert(row(2, "a")))
	x.commits(9001, msgCommit(9001))
	x.begins(8, 9100, api.OK)
	x.commits(9101)
}
