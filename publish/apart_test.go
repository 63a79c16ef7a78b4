package publish_test

import (
	"slices"
	"sync"
	"testing"

	"confluence/api"
	"confluence/publish"
)

var (
	mine          = api.Value{Kind: 9, N: 9, S: "mine"}
	mineColumn    = api.Column{Name: "mine", Kind: 9}
	minePublished = api.Published{Table: "mine", Kinds: 9, Filter: "mine"}
)

// roomy is the same list, with spare room that is written full.
func roomy[L ~[]E, E any](l L, filler E) L {
	out := append(slices.Clone(l), slices.Repeat(L{filler}, 9)...)
	return out[:len(l)]
}

// isFull tells whether the room behind a list is as it was made.
func isFull[L ~[]E, E comparable](l L, filler E) bool {
	for _, x := range l[len(l) : len(l)+9] {
		if x != filler {
			return false
		}
	}
	return true
}

// fill writes over a list and all of its room.
func fill[L ~[]E, E any](l L, filler E) {
	l = l[:cap(l)]
	for i := range l {
		l[i] = filler
	}
}

func roomyTable(x api.Table) api.Table {
	x.Columns = roomy(x.Columns, mineColumn)
	return x
}

func roomyMessage(m api.Message) api.Message {
	m.Tab, m.Old, m.New = roomyTable(m.Tab), roomy(m.Old, mine), roomy(m.New, mine)
	return m
}

func roomyChange(c api.Change) api.Change {
	c.Old, c.New = roomy(c.Old, mine), roomy(c.New, mine)
	return c
}

func roomyPublication(p api.Publication) api.Publication {
	p.Tables = roomy(p.Tables, minePublished)
	for i := range p.Tables {
		p.Tables[i].Columns = roomy(p.Tables[i].Columns, "mine")
	}
	return p
}

// Whether what was handed in is as it was, room and all.
func keepsTable(x, want api.Table) bool { return equalTable(x, want) && isFull(x.Columns, mineColumn) }

func keepsMessage(m, want api.Message) bool {
	return equal(m, want) && keepsTable(m.Tab, want.Tab) && isFull(m.Old, mine) && isFull(m.New, mine)
}

func keepsChange(c, want api.Change) bool {
	return c.Kind == want.Kind && c.Table == want.Table && slices.Equal(c.Old, want.Old) && slices.Equal(c.New, want.New) && isFull(c.Old, mine) && isFull(c.New, mine)
}

func keepsPublication(p, want api.Publication) bool {
	for _, x := range p.Tables {
		if !isFull(x.Columns, "mine") {
			return false
		}
	}
	for _, x := range p.Tables[len(p.Tables) : len(p.Tables)+9] {
		if !equalPublished(x, minePublished) {
			return false
		}
	}
	return equalPublication(p, want)
}

// spoilPublication writes over all lists of one.
func spoilPublication(p api.Publication) {
	for _, x := range p.Tables {
		fill(x.Columns, "mine")
	}
	fill(p.Tables, minePublished)
}

func TestMessagesThatAreHandedIn(t *testing.T) {
	for _, c := range samples() {
		m := roomyMessage(c.m)
		s, e := publish.Encode(m)
		if s != c.s || e != api.OK || !keepsMessage(m, c.m) {
			t.Errorf("Encode(%+v) = %x, %d; what was handed in is %+v", c.m, s, e, m)
		}
		fill(m.Tab.Columns, mineColumn)
		fill(m.Old, mine)
		fill(m.New, mine)
		if s != c.s {
			t.Errorf("%x was told, and is %x now", c.s, s)
		}
		m = roomyMessage(c.m)
		m.Kind = 0
		if _, e := publish.Encode(m); e != api.ErrPublishMessage || m.Kind != 0 || !isFull(m.Old, mine) || !isFull(m.New, mine) || !keepsTable(m.Tab, c.m.Tab) {
			t.Errorf("Encode of none: %d; what was handed in is %+v", e, m)
		}
	}
}

func TestMessagesThatComeOut(t *testing.T) {
	for _, c := range samples() {
		a, _ := publish.Decode(c.s)
		b, _ := publish.Decode(c.s)
		fill(a.Tab.Columns, mineColumn)
		fill(a.Old, mine)
		if !slices.Equal(a.New, c.m.New) {
			t.Errorf("Decode(%x): the rows of one message share memory", c.s)
		}
		fill(a.New, mine)
		if !equal(b, c.m) {
			t.Errorf("Decode(%x): two messages share memory", c.s)
		}
		_ = append(b.Old, mine)
		if !equal(b, c.m) {
			t.Errorf("Decode(%x): the room of a row is another one's", c.s)
		}
	}
}

func TestPublicationsThatAreHandedIn(t *testing.T) {
	for _, want := range rightPublications() {
		p := roomyPublication(want)
		publish.Right(p)
		s, _ := publish.EncodePublication(p)
		publish.View(p, thing())
		x, e := publish.New(p)
		if e != api.OK || !keepsPublication(p, want) {
			t.Errorf("New(%+v): %d; what was handed in is %+v", want, e, p)
		}
		x.Begin(1, 1)
		x.Change(thing(), emptied())
		if !keepsPublication(p, want) {
			t.Errorf("Change: the publication that was handed in is %+v, and was %+v", p, want)
		}
		spoilPublication(p)
		if s != publicationLaid(want) {
			t.Errorf("%+v: its bytes are %x now", want, s)
		}
	}
	for _, want := range wrongPublications() {
		p := roomyPublication(want)
		publish.Right(p)
		publish.EncodePublication(p)
		publish.View(p, thing())
		if publish.New(p); !keepsPublication(p, want) {
			t.Errorf("what was handed in is %+v, and was %+v", p, want)
		}
	}
}

func TestPublicationsThatComeOut(t *testing.T) {
	for _, want := range rightPublications() {
		s := publicationLaid(want)
		a, _ := publish.DecodePublication(s)
		b, _ := publish.DecodePublication(s)
		for i := range a.Tables {
			fill(a.Tables[i].Columns, "mine")
			if !slices.EqualFunc(a.Tables[i+1:], want.Tables[i+1:], equalPublished) {
				t.Errorf("DecodePublication(%x): two tables share memory", s)
			}
		}
		fill(a.Tables, minePublished)
		if !equalPublication(b, want) {
			t.Errorf("DecodePublication(%x): two publications share memory", s)
		}
	}
}

// TestPublisherKeepsItsOwn: the publication may be written over behind New.
func TestPublisherKeepsItsOwn(t *testing.T) {
	p := roomyPublication(pub(api.Published{Table: "t", Kinds: 15, Columns: []string{"name"}, Filter: "id > 1"}, api.Published{Table: "u", Kinds: 1}))
	x := made(t, p)
	y := made(t, p)
	spoilPublication(p)
	z := made(t, only(15, ""))
	view := cut(thing(), 0, 0, 1)
	for _, b := range []*bench{x, y} {
		b.begin()
		b.tells("outside of the filter", thing(), inserted(row(1, "a")))
		b.tells("the columns", thing(), inserted(row(2, "a")), msgBegin(), msgTable(view), msgInsert(row(2, "a")[:2]))
		b.tells("no other table", changed(func(x *api.Table) { x.Name = "mine" }), inserted(row(2, "a")))
	}
	z.begin()
	z.tells("another one", thing(), inserted(row(1, "a")), msgBegin(), msgTable(thing()), msgInsert(row(1, "a")))
}

func TestViewsThatComeOut(t *testing.T) {
	for _, p := range []api.Publication{only(15, ""), only(15, "id > 1"), only(15, "", "name", "flag")} {
		given := roomyTable(thing())
		a, _ := publish.View(p, given)
		b, _ := publish.View(p, given)
		want := api.Table{ID: b.ID, Version: b.Version, Name: b.Name, Columns: slices.Clone(b.Columns), Key: b.Key}
		if !keepsTable(given, thing()) {
			t.Errorf("View: what was handed in is %+v", given)
		}
		fill(a.Columns, mineColumn)
		if !keepsTable(given, thing()) || !equalTable(b, want) {
			t.Errorf("View: it shares memory: %+v, %+v", given, b)
		}
		fill(given.Columns, mineColumn)
		if !equalTable(b, want) {
			t.Errorf("View: it is the memory that was handed in: %+v", b)
		}
	}
}

// TestChangesThatAreHandedIn: nothing of a table or a change is kept but what was told.
func TestChangesThatAreHandedIn(t *testing.T) {
	x := made(t, only(15, "id > 0"))
	x.begin()
	ahead := []api.Message{msgBegin(), msgTable(thing())}
	a, b := row(1, "a"), row(1, "b")
	for _, c := range []struct {
		change api.Change
		want   api.Message
	}{{inserted(a), msgInsert(a)}, {updated(a, b), msgUpdate(a, b)}, {deleted(b), msgDelete(b)}, {emptied(), msgEmpty()}} {
		given, change := roomyTable(thing()), roomyChange(c.change)
		l, e := x.p.Change(given, change)
		if e != api.OK || !keepsTable(given, thing()) || !keepsChange(change, c.change) {
			t.Errorf("Change: %d; what was handed in is %+v, %+v", e, given, change)
		}
		// Were the columns kept, the view that was told would be another one now.
		fill(given.Columns, mineColumn)
		fill(change.Old, mine)
		fill(change.New, mine)
		if got := read(t, l); !slices.EqualFunc(got, append(ahead, c.want), equal) {
			t.Errorf("Change: %+v, want %+v", got, c.want)
		}
		ahead = nil
	}
	for _, r := range noRowsOfThing() {
		given, change := roomyTable(thing()), roomyChange(updated(r, r))
		if x.p.Change(given, change); !keepsTable(given, thing()) || !keepsChange(change, updated(r, r)) {
			t.Errorf("a Change that is refused: what was handed in is %+v, %+v", given, change)
		}
	}
}

// TestOneTableUsedAgain: whoever uses one list of columns for each table is told of each.
func TestOneTableUsedAgain(t *testing.T) {
	x := made(t, only(15, ""))
	x.begin()
	one := thing()
	x.tells("as it is", one, emptied(), msgBegin(), msgTable(thing()), msgEmpty())
	one.Columns[1].Name = "other"
	other := thing()
	other.Columns[1].Name = "other"
	x.tells("as it is now", one, emptied(), msgTable(other), msgEmpty())
	one.Columns[1].Name = "name"
	x.tells("as it was", one, emptied(), msgTable(thing()), msgEmpty())
	x.tells("as it was", thing(), emptied(), msgEmpty())
}

// TestListsOfMessages: those that came out are their callers'.
func TestListsOfMessages(t *testing.T) {
	x, y := made(t, only(15, "")), made(t, only(15, ""))
	x.begin()
	y.begin()
	var kept [][]string
	for range 5 {
		a, _ := x.p.Change(thing(), emptied())
		b, _ := y.p.Change(thing(), emptied())
		kept = append(kept, slices.Clone(b), b)
		fill(a, "mine")
	}
	a, _ := x.p.Commit(9001)
	b, _ := y.p.Commit(9001)
	kept = append(kept, slices.Clone(b), b)
	fill(a, "mine")
	for i := 0; i < len(kept); i += 2 {
		if !slices.Equal(kept[i], kept[i+1]) {
			t.Errorf("a list of messages is %q, and was %q", kept[i+1], kept[i])
		}
	}
	x.begin()
	x.tells("behind that", thing(), emptied(), msgBegin(), msgTable(thing()), msgEmpty())
}

// TestPublishersSideBySide: what is done to one is not seen in another.
func TestPublishersSideBySide(t *testing.T) {
	p := only(15, "id > 1")
	x, y := made(t, p), made(t, p)
	x.begin()
	y.refuses("y is outside", thing(), emptied(), api.ErrPublishOrder)
	y.stays(9001, api.ErrPublishOrder)
	y.begins(7, 8192, api.OK)
	x.tells("of x", thing(), emptied(), msgBegin(), msgTable(thing()), msgEmpty())
	y.tells("of y", thing(), emptied(), api.Message{Kind: api.MsgBegin, Xid: 7, Lsn: 8192}, msgTable(thing()), msgEmpty())
	x.commits(9001, msgCommit(9001))
	y.tells("of y still", thing(), emptied(), msgEmpty())
	x.begins(8, 9100, api.OK)
	y.commits(8193, api.Message{Kind: api.MsgCommit, Xid: 7, Lsn: 8192, End: 8193})
	x.commits(9101)
}

// TestAtOneTime: publishers are worked on at one time, over the same publication and tables; a race would be found by go test -race.
func TestAtOneTime(t *testing.T) {
	p := only(15, "id > 1 and name <> 'x'", "name")
	table, r := thing(), row(2, "a")
	s, _ := publish.EncodePublication(p)
	var all sync.WaitGroup
	for n := range 8 {
		all.Go(func() {
			x, e := publish.New(p)
			for i := range 100 {
				x.Begin(1+n, 9000+i)
				l, f := x.Change(table, inserted(r))
				last, g := x.Commit(9001 + i)
				if e != api.OK || f != api.OK || g != api.OK || len(l) != 3 || len(last) != 1 {
					t.Errorf("%q, %q", l, last)
				}
				publish.View(p, table)
				m, e := publish.Decode(l[1])
				if again, f := publish.Encode(m); e != api.OK || f != api.OK || again != l[1] {
					t.Errorf("%q, %q", l[1], again)
				}
				if q, e := publish.DecodePublication(s); e != api.OK || publish.Right(q) != api.OK {
					t.Errorf("%+v", q)
				}
			}
		})
	}
	all.Wait()
}
