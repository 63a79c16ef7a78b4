package decode_test

import (
	"math"
	"slices"
	"testing"

	"confluence/api"
	"confluence/publish"
)

// TestExamples: the chapter's.
func TestExamples(t *testing.T) {
	b := laid(t, checkpoint(), create(9, one()), begin(10), insert(10, 1, 5), commit(10))
	x := b.open(0, first, 100)
	steps(t, x, "", "", "", "begin 10, t 1.1, +1(5), commit 10", "!200")
	steps(t, b.open(b.w.End(), first, 100), "", "", "", "", "!200")
	b.refuses(slotAt(0, first+1), 100, api.ErrDecodeLog)
}

// TestD2Kinds: each kind of record, what it tells, and what Counts and Position say behind it.
func TestD2Kinds(t *testing.T) {
	b := begun(t)
	u := table(2, "u", 1)
	for _, r := range []struct {
		rec  api.Rec
		want string
		open int
	}{
		{checkpoint(one(), u), "", 0},
		{begin(1), "", 1},
		{begin(2), "", 2},
		{insert(1, 1, 1), "", 2},
		{insert(2, 1, 2), "", 2},
		{part(3, 1), "", 2},
		{insert(3, 1, 3), "", 2},
		{back(3), "", 2},
		{part(4, 1), "", 2},
		{insert(4, 1, 4), "", 2},
		{release(4), "", 2},
		{insert(1, 2, 7), "", 2},
		{prepare(2, "w"), "", 2},
		{commit(1), "begin 1, t 1.1, +1(1), +1(4), u 2.1, +2(7), commit 1", 1},
		{api.Rec{Kind: api.RecCommit, Xid: 2, Name: "o", Origin: 8192}, "begin 2, t 1.1, +1(2), commit 2", 0},
		{widen(5, table(1, "t", 2)), "", 0},
		{begin(6), "", 1},
		{update(6, 1, row(1, 0), row(1, 9)), "", 1},
		{remove(6, 1, 4, 0), "", 1},
		{commit(6), "begin 6, t 1.2, =1(1 0)(1 9), -1(4 0), commit 6", 0},
		{empty(7, 1), "begin 7, t 1.2, empty 1, commit 7", 0},
		{begin(9), "", 1},
		{insert(9, 1, 8, 8), "", 1},
		{abort(9), "", 0},
		{begin(10), "", 1},
		{commit(10), "", 0},
		{drop(11, 1), "", 0},
		{create(12, table(3, "t", 3)), "", 0},
		{begin(13), "", 1},
		{insert(13, 3, 1, 2, 3), "", 1},
		{checkpoint(), "", 1},
		{commit(13), "begin 13, t 3.3, +3(1 2 3), commit 13", 0},
		{checkpoint(), "", 0},
	} {
		b.lay(r.rec)
		if r.rec.Kind == api.RecCheckpoint && b.w.End() == first+size(t, r.rec) {
			continue
		}
		// Each is read from the beginning, so that its kind comes to several decoders as the last one.
		x := b.open(0, first, 0)
		var last []string
		for x.Position() < b.w.End() {
			l, e := x.Step()
			if e != api.OK {
				t.Fatalf("Step at %d: %d", x.Position(), e)
			}
			last = l
		}
		if words(last) != r.want || x.Counts().Open != r.open {
			t.Errorf("%+v: %s, %d open, want %s, %d", r.rec, words(last), x.Counts().Open, r.want, r.open)
		}
		steps(t, x, "!200")
	}
	b.open(0, first, 0)
	b.clean()
}

// TestD2Positions: what is told of positions: the commit's, and where its frame ends.
func TestD2Positions(t *testing.T) {
	b := laid(t, checkpoint(one()), begin(300), insert(300, 1, 5))
	at := b.lay(api.Rec{Kind: api.RecCommit, Xid: 300, Name: "abc", Origin: 70000}, empty(301, 1))
	x := b.open(0, first, 0)
	nothing(t, x, 2)
	for i, want := range []api.Message{{Kind: api.MsgCommit, Xid: 300, Lsn: at[0], End: at[1]}, {Kind: api.MsgCommit, Xid: 301, Lsn: at[1], End: b.w.End()}} {
		l, _ := x.Step()
		head, _ := publish.Decode(l[0])
		last, _ := publish.Decode(l[len(l)-1])
		if head.Kind != api.MsgBegin || head.Xid != want.Xid || head.Lsn != want.Lsn {
			t.Errorf("%d: %+v", i, head)
		}
		if last.Kind != want.Kind || last.Xid != want.Xid || last.Lsn != want.Lsn || last.End != want.End {
			t.Errorf("%d: %+v, want %+v", i, last, want)
		}
	}
}

// TestD2End: at the end nothing is changed; what comes then is read.
func TestD2End(t *testing.T) {
	b := laid(t, checkpoint(one()))
	x := b.open(0, first, 0)
	for _, r := range []struct {
		rec  api.Rec
		want string
	}{{begin(1), ""}, {insert(1, 1, 5), ""}, {commit(1), "begin 1, t 1.1, +1(5), commit 1"}, {checkpoint(), ""}} {
		at, counts, restart := x.Position(), x.Counts(), x.Restart(math.MaxInt)
		if at != b.w.End() {
			t.Errorf("Position: %d, want %d", at, b.w.End())
		}
		steps(t, x, "!200", "!200", "!200")
		b.put(r.rec)
		// It is there, but does not last yet.
		steps(t, x, "!200", "!200")
		if x.Position() != at || x.Counts() != counts || x.Restart(math.MaxInt) != restart {
			t.Errorf("the end changed something: %d, %+v", x.Position(), x.Counts())
		}
		b.flush()
		steps(t, x, r.want, "!200")
	}
}

// TestD2EndOfMany: of several records that were appended those are read that last.
func TestD2EndOfMany(t *testing.T) {
	b := laid(t, checkpoint(one()), begin(1), insert(1, 1, 5))
	b.put(insert(1, 1, 6), commit(1))
	x := b.open(0, first, 0)
	steps(t, x, "", "", "!200")
	b.flush()
	steps(t, x, "", "begin 1, t 1.1, +1(5), +1(6), commit 1", "!200")
}

// TestD2Turn: the decoder stands where a segment ends; the next record begins another one, and does not last yet.
func TestD2Turn(t *testing.T) {
	for _, room := range []int{0, 1, 8, 10} {
		b := laid(t, checkpoint(one()), begin(1), insert(1, 1, 5))
		b.fill(room)
		b.flush()
		x := b.open(0, first, 0)
		if l := whole(t, x); len(l) > 0 {
			t.Errorf("told: %s", words(l))
		}
		behind := x.Position()
		if behind != 2*first-room {
			t.Fatalf("Position: %d", behind)
		}
		at := b.put(commit(1))[0]
		if at != 2*first || b.w.Flushed() != at {
			t.Fatalf("the commit stands at %d, Flushed: %d", at, b.w.Flushed())
		}
		steps(t, x, "!200", "!200")
		if x.Position() != behind {
			t.Errorf("Position: %d, was %d", x.Position(), behind)
		}
		b.flush()
		l, e := x.Step()
		if words(l) != "begin 1, t 1.1, +1(5), commit 1" || e != api.OK {
			t.Fatalf("Step: %s, %d", words(l), e)
		}
		if m, _ := publish.Decode(l[3]); m.Lsn != at || m.End != b.w.End() {
			t.Errorf("the commit is told as %+v", m)
		}
		steps(t, x, "!200")
	}
}

// TestD2TurnNoRecord: the same, where bytes that are no record do not last yet: there is none, till they do.
func TestD2TurnNoRecord(t *testing.T) {
	b := laid(t, checkpoint())
	b.fill(5)
	b.flush()
	x := b.open(0, first, 0)
	whole(t, x)
	b.raw("no record")
	steps(t, x, "!200", "!200")
	b.flush()
	steps(t, x, "!201", "!201")
}

// TestD2TurnDead: the same, of a dead disk: it is asked ahead of the record's position.
func TestD2TurnDead(t *testing.T) {
	for _, room := range []int{5, 0} {
		b := laid(t, checkpoint())
		b.fill(room)
		b.flush()
		x := b.open(0, first, 0)
		whole(t, x)
		b.put(begin(1))
		kill(t, b.d)
		if room == 0 {
			// The place is Flushed itself, of which no disk is asked.
			steps(t, x, "!200", "!200")
		} else {
			steps(t, x, "!2", "!2")
			revive(t, b.d)
			b.flush()
			steps(t, x, "!2")
		}
	}
}

// TestD2TurnEmpty: a segment was begun, and nothing stands in it: there is none.
func TestD2TurnEmpty(t *testing.T) {
	b := laid(t, checkpoint())
	b.fill(9)
	b.flush()
	x := b.open(0, first, 0)
	whole(t, x)
	b.put(checkpoint())
	is(t, "Crash", b.d.Crash(nil), api.OK)
	b = reopened(t, b.d)
	if b.w.End() != 2*first || b.w.Flushed() != 2*first {
		t.Fatalf("End: %d", b.w.End())
	}
	y := b.open(0, first, 0)
	whole(t, y)
	steps(t, y, "!200")
	if y.Position() != 2*first {
		t.Errorf("Position: %d", y.Position())
	}
	b.lay(begin(1))
	steps(t, y, "", "!200")
}

// TestD2CommitEndsSegment: the end that is told is where the frame ends, whether the next segment is there when it is read or not; so it is asked of Confirmed, too.
func TestD2CommitEndsSegment(t *testing.T) {
	great := table(2, "u", 8)
	for i := range great.Columns {
		great.Columns[i].Name = "abcdefghijklmno" + itoa(i)
	}
	for _, last := range []api.Rec{commit(1), empty(1, 1)} {
		for _, room := range []int{0, 1, 7, 100} {
			for _, later := range []bool{false, true} {
				b := laid(t, checkpoint(one()), begin(1), insert(1, 1, 5))
				if last.Kind == api.RecEmpty {
					b = laid(t, checkpoint(one()))
				}
				b.fill(room + size(t, last))
				at := b.lay(last)[0]
				end := 2*first - room
				if at+size(t, last) != end {
					t.Fatalf("it ends at %d", at+size(t, last))
				}
				if later {
					b.lay(create(2, great))
					if b.w.Flushed() <= 2*first {
						t.Fatalf("Flushed: %d", b.w.Flushed())
					}
				}
				for confirmed, tells := range map[int]bool{0: true, end - 1: true, end: false, end + 1: false, 2 * first: false} {
					x := b.open(confirmed, first, 0)
					l := whole(t, x)
					if (len(l) > 0) != tells {
						t.Errorf("room %d, confirmed %d: told %s", room, confirmed, words(l))
					}
					if len(l) > 0 && endOf(t, l[len(l)-1]) != end {
						t.Errorf("room %d: it ends at %d, want %d", room, endOf(t, l[len(l)-1]), end)
					}
				}
			}
		}
	}
}

// TestD2Confirmed: of a commit and of a RecEmpty whose end is one below Confirmed, at it, and one above it.
func TestD2Confirmed(t *testing.T) {
	b := laid(t, checkpoint(one()), begin(1), begin(2), insert(1, 1, 5), insert(2, 1, 6))
	at := append(b.lay(commit(2), empty(3, 1), commit(1)), b.w.End())
	told := []string{"begin 2, t 1.1, +1(6), commit 2", "begin 3, t 1.1, empty 1, commit 3", "begin 1, t 1.1, +1(5), commit 1"}
	for i, end := range at[1:] {
		for by := -1; by <= 1; by++ {
			want := slices.Clone(told)
			for k := range want {
				if k < i || k == i && by >= 0 {
					want[k] = ""
				}
			}
			for _, limit := range limits {
				x := b.open(end+by, first, limit)
				nothing(t, x, 4)
				steps(t, x, append(want, "!200")...)
				if x.Counts().Open != 0 || x.Counts().Bytes != 0 {
					t.Errorf("Counts: %+v", x.Counts())
				}
				b.clean()
			}
		}
	}
}

// TestD2ConfirmedIsNotAsked: of what is confirmed no table is asked, and nothing of layer 18; but layer 16 is.
func TestD2ConfirmedIsNotAsked(t *testing.T) {
	wrong := []api.Rec{begin(1), insert(1, 7, 5), insert(1, 1, 1, 2, 3), update(1, 1, row(1), row(2)), commit(1), empty(2, 7)}
	b := laid(t, append([]api.Rec{checkpoint(one())}, wrong...)...)
	x := b.open(b.w.End(), first, 0)
	nothing(t, x, len(wrong))
	b.clean()
	b = laid(t, checkpoint(one()), begin(1), commit(1), commit(1))
	steps(t, b.open(b.w.End(), first, 0), "", "", "!201", "!201")
}

// TestD2Tables: a table that is made, widened and dropped ahead of a change, between a change and its commit, and behind it: each change has the table as it was at its own position.
func TestD2Tables(t *testing.T) {
	b := laid(t, checkpoint(),
		begin(1), create(2, one()), insert(1, 1, 1), widen(3, table(1, "t", 2)), insert(1, 1, 2, 3), begin(4), insert(4, 1, 4, 4),
		widen(5, table(1, "t", 3)), drop(6, 1), commit(1),
		create(7, table(1, "t", 4)), insert(4, 1, 5, 5, 5, 5), create(8, table(9, "t", 1)), insert(4, 9, 6), commit(4), drop(9, 9), drop(10, 1))
	for _, limit := range limits {
		x := b.open(0, first, limit)
		nothing(t, x, 9-1)
		steps(t, x, "", "begin 1, t 1.1, +1(1), t 1.2, +1(2 3), commit 1", "", "", "", "", "begin 4, t 1.2, +1(4 4), t 1.4, +1(5 5 5 5), t 9.1, +9(6), commit 4", "", "", "!200")
		b.clean()
	}
}

// TestD2TablesManyTimes: more changes of tables than need be kept, within a transaction and without one.
func TestD2TablesManyTimes(t *testing.T) {
	b := laid(t, checkpoint(one()), begin(1), insert(1, 1, 0))
	want := "begin 1, t 1.1, +1(0)"
	lay := func(xid, n int) {
		b.put(create(2, table(1, "t", 1+n%3)), create(3, table(2+n, "u", 1)), insert(xid, 1, row3(n)...), insert(xid, 2+n, n), drop(4, 2+n))
		want += ", t 1." + string(rune('1'+n%3)) + ", +1" + values(row(row3(n)...)) + ", u " + itoa(2+n) + ".1, +" + itoa(2+n) + "(" + itoa(n) + ")"
	}
	for n := 1; n <= 200; n++ {
		lay(1, n)
	}
	b.put(commit(1))
	want += ", commit 1"
	for n := 1; n <= 200; n++ {
		b.put(begin(9))
		want += ", begin 9"
		lay(9, n)
		b.put(commit(9))
		want += ", commit 9"
	}
	b.put(drop(5, 1), begin(1), insert(1, 1, 1), commit(1))
	b.flush()
	for _, limit := range []int{0, never} {
		x := b.open(0, first, limit)
		var told []string
		for _, a := range all(x) {
			told = append(told, a.told...)
			if a.e != api.OK && a.e != api.ErrDecodeLog {
				t.Errorf("Step: %d", a.e)
			}
		}
		if got := words(told); got != want {
			t.Errorf("told %s, want %s", got, want)
		}
	}
}

// row3 is a row of a table whose width hangs on n.
func row3(n int) []int { return []int{n, 0, 0}[:1+n%3] }

func itoa(n int) string {
	if n < 10 {
		return string(rune('0' + n))
	}
	return itoa(n/10) + itoa(n%10)
}

// TestD2SideBySide: transactions between one another, with parts within parts, prepared, aborted.
func TestD2SideBySide(t *testing.T) {
	b := laid(t, checkpoint(one()),
		begin(1), begin(2), begin(3), insert(1, 1, 10), insert(2, 1, 20), insert(3, 1, 30),
		part(4, 1), insert(4, 1, 11), part(5, 4), insert(5, 1, 12), part(6, 2), insert(6, 1, 21), release(5), back(4), insert(1, 1, 13),
		prepare(3, "w"), release(6), part(7, 6), insert(7, 1, 22), back(7), insert(6, 1, 23), abort(1), begin(8), insert(8, 1, 80), begin(1), insert(1, 1, 14),
		commit(2), commit(3), abort(8), commit(1))
	for _, limit := range limits {
		x := b.open(0, first, limit)
		var told []string
		for _, a := range all(x) {
			told = append(told, words(a.told))
		}
		if want := []string{"begin 2, t 1.1, +1(20), +1(21), +1(23), commit 2", "begin 3, t 1.1, +1(30), commit 3", "begin 1, t 1.1, +1(14), commit 1", ""}; !slices.Equal(told, want) {
			t.Errorf("limit %d: told %q, want %q", limit, told, want)
		}
		b.clean()
	}
}

// TestD2Nothing: a transaction without changes, one all of whose changes were taken back, and one of which nothing is published.
func TestD2Nothing(t *testing.T) {
	b := laid(t, checkpoint(one(), table(2, "other", 1)), begin(1), commit(1), begin(2), part(3, 2), insert(3, 1, 1), back(3), commit(2), begin(4), insert(4, 2, 5), commit(4), empty(5, 2))
	for _, limit := range limits {
		x := b.open(0, first, limit)
		nothing(t, x, 11)
		steps(t, x, "!200")
		b.clean()
	}
}

// TestD2Publication: what is told is as the slot's publication wants it.
func TestD2Publication(t *testing.T) {
	b := laid(t, checkpoint(table(1, "t", 3), table(2, "u", 1)), begin(1), insert(1, 1, 1, 2, 3), insert(1, 2, 9), insert(1, 1, 5, 6, 7),
		update(1, 1, row(5, 6, 7), row(5, 60, 7)), update(1, 1, row(1, 2, 3), row(1, 20, 3)), remove(1, 1, 5, 60, 7), commit(1), empty(2, 1), empty(3, 2))
	for _, c := range []struct {
		p    api.Published
		want string
	}{
		{api.Published{Table: "t", Kinds: 15, Columns: []string{"n2"}, Filter: "n1 > 5"}, "begin 1, t 1.3, +1(5 7), =1(5 7)(5 7), +1(1 3), -1(5 7), commit 1, begin 2, t 1.3, empty 1, commit 2"},
		{api.Published{Table: "t", Kinds: 1}, "begin 1, t 1.3, +1(1 2 3), +1(5 6 7), commit 1"},
		{api.Published{Table: "t", Kinds: 2, Columns: []string{"n1"}}, "begin 1, t 1.3, =1(5 6)(5 60), =1(1 2)(1 20), commit 1"},
		{api.Published{Table: "t", Kinds: 4}, "begin 1, t 1.3, -1(5 60 7), commit 1"},
		{api.Published{Table: "t", Kinds: 8}, "begin 2, t 1.3, empty 1, commit 2"},
		{api.Published{Table: "u", Kinds: 9}, "begin 1, u 2.1, +2(9), commit 1, begin 3, u 2.1, empty 2, commit 3"},
		{api.Published{Table: "t", Kinds: 15, Filter: "none > 5"}, ""},
	} {
		x := slotAt(0, first)
		x.Publication = api.Publication{Name: "p", Tables: []api.Published{c.p}}
		for _, limit := range limits {
			if got := words(whole(t, b.opens(x, limit))); got != c.want {
				t.Errorf("%+v: told %s, want %s", c.p, got, c.want)
			}
		}
	}
}
