package spill_test

import (
	"hash/crc32"
	"math"
	"strings"
	"testing"

	"confluence/api"
)

func TestS2Xids(t *testing.T) {
	d, s := begun(t, 10000)
	costs(t, d, 0, "Write of no number", func() {
		for _, xid := range []int{0, -1, -7, api.MaxXid + 1, 1 << 32, math.MaxInt, math.MinInt} {
			writes(t, s, xid, api.ErrArg, change(5, 7))
		}
	})
	lists(t, d)
	for _, xid := range []int{1, 2, api.MaxXid - 1, api.MaxXid} {
		writes(t, s, xid, api.OK, change(5, 7))
		reads(t, s, xid, 0, api.OK, change(5, 7))
	}
	lists(t, d, "spill.a.1.0", "spill.a.2.0", "spill.a.2147483646.0", "spill.a.2147483647.0")
	knows(t, s, [2]int{1, 1}, [2]int{2, 1}, [2]int{api.MaxXid - 1, 1}, [2]int{api.MaxXid, 1})
}

// wrongChanges are changes at the position 5, or at none, that are not right.
func wrongChanges() []api.Change {
	var l []api.Change
	add := func(f func(c *api.Change)) { l = append(l, with(f)) }
	for _, n := range []int{0, -1, math.MinInt} {
		add(func(c *api.Change) { c.Lsn = n })
		add(func(c *api.Change) { c.Table = n })
		add(func(c *api.Change) { c.Xid = n })
	}
	for _, n := range []int{api.MaxXid + 1, 1 << 32, math.MaxInt} {
		add(func(c *api.Change) { c.Xid = n })
	}
	for n := -2; n < 20; n++ {
		if n < api.RecInsert || n > api.RecDelete {
			add(func(c *api.Change) { c.Kind = n })
		}
	}
	for _, n := range []int{256 + api.RecInsert, 1<<32 + api.RecInsert, 255, 256, math.MaxInt, math.MinInt} {
		add(func(c *api.Change) { c.Kind = n })
	}
	for _, r := range wrongRows() {
		add(func(c *api.Change) { c.Old = r })
		add(func(c *api.Change) { c.New = r })
		add(func(c *api.Change) { c.Old, c.New = r, r })
	}
	return l
}

// wrongRows are rows that layer 4 does not write.
func wrongRows() []api.Row {
	return []api.Row{
		make(api.Row, 9),
		append(wide(), api.Value{}),
		row(text(strings.Repeat("x", 201))),
		row(number(1), text(strings.Repeat("x", 1701))),
		row(api.Value{Kind: 4}),
		row(api.Value{Kind: -1}),
		row(api.Value{N: 1}),
		row(api.Value{S: "x"}),
		row(api.Value{Kind: api.Int, S: "x"}),
		row(api.Value{Kind: api.Text, N: 1}),
		row(truth(2)),
		row(truth(-1)),
		row(number(1), text("a"), api.Value{Kind: api.Bool, S: "x"}),
	}
}

// TestS2WrongChanges: each alone, ahead of right ones, between them, behind them; nothing comes of it.
func TestS2WrongChanges(t *testing.T) {
	d, s := begun(t, 10000)
	costs(t, d, 0, "Write of what is not right", func() {
		writes(t, s, 7, api.ErrArg)
		if e := s.Write(7, []api.Change{}); e != api.ErrArg {
			t.Errorf("Write of an empty list: %d", e)
		}
		for _, c := range wrongChanges() {
			writes(t, s, 7, api.ErrArg, c)
			writes(t, s, 7, api.ErrArg, c, change(6, 7))
			writes(t, s, 7, api.ErrArg, change(4, 7), c, change(6, 7))
			writes(t, s, 7, api.ErrArg, change(3, 7), change(4, 7), c)
		}
	})
	lists(t, d)
	knows(t, s)
}

// rightChanges are such as are right at the edges.
func rightChanges() []api.Change {
	var l []api.Change
	add := func(f func(c *api.Change)) { l = append(l, with(f)) }
	for _, n := range []int{1, 127, 128, 16383, 16384, 1 << 31, 1 << 56, math.MaxInt} {
		add(func(c *api.Change) { c.Lsn = n })
		add(func(c *api.Change) { c.Table = n })
	}
	for _, n := range []int{1, 127, 128, api.MaxXid - 1, api.MaxXid} {
		add(func(c *api.Change) { c.Xid = n })
	}
	rows := []api.Row{nil, {}, make(api.Row, 8), wide(), wide()[:7], row(text("")), row(text("\x00\xff'")), row(number(math.MinInt), number(math.MaxInt), truth(0), truth(1))}
	for _, kind := range []int{api.RecInsert, api.RecUpdate, api.RecDelete} {
		for _, a := range rows {
			for _, b := range rows {
				add(func(c *api.Change) { c.Kind, c.Old, c.New = kind, a, b })
			}
		}
	}
	return l
}

func TestS2RightChanges(t *testing.T) {
	for _, c := range rightChanges() {
		d, s := begun(t, 10000)
		writes(t, s, 7, api.OK, c)
		holds(t, d, api.File{Name: named(7, 0), Bytes: laid(c)})
		reads(t, s, 7, 0, api.OK, c)
	}
	greatest := api.Change{Lsn: math.MaxInt, Xid: api.MaxXid, Kind: api.RecUpdate, Table: math.MaxInt, Old: wide(), New: wide()}
	if len(rowBytes(wide())) != 1625 || len(laid(greatest)) != 7+9+5+1+9+2*1627 {
		t.Errorf("%d, %d", len(rowBytes(wide())), len(laid(greatest)))
	}
	d, s := begun(t, 10000)
	writes(t, s, api.MaxXid, api.OK, change(1, 1), greatest)
	holds(t, d, api.File{Name: named(api.MaxXid, 0), Bytes: laid(change(1, 1), greatest)})
	reads(t, s, api.MaxXid, 0, api.OK, change(1, 1), greatest)
}

func TestS2Rising(t *testing.T) {
	d, s := begun(t, 100000)
	at := func(l ...int) []api.Change {
		var out []api.Change
		for _, lsn := range l {
			out = append(out, change(lsn, 7))
		}
		return out
	}
	costs(t, d, 0, "Write of what does not rise", func() {
		for _, l := range [][]int{{5, 5}, {5, 4}, {5, 1}, {1, 2, 2}, {1, 3, 2}, {2, 1, 3}, {2, 2, 3}, {1, 2, 3, 4, 5, 1}, {1, 2, 3, 4, 5, 5}, {math.MaxInt, math.MaxInt}, {math.MaxInt, 1}, {1, 3, 5, 2, 6}} {
			writes(t, s, 7, api.ErrArg, at(l...)...)
		}
	})
	lists(t, d)
	for k, l := range [][]int{{5, 6}, {5, 7}, {1, 2, 3, 100}, {1, math.MaxInt - 1, math.MaxInt}, {4}, {4}} {
		writes(t, s, 7, api.OK, at(l...)...)
		reads(t, s, 7, k, api.OK, at(l...)...)
	}
	knows(t, s, [2]int{7, 6})
}

// TestS2AnyXids: the changes of a segment may have other numbers than it.
func TestS2AnyXids(t *testing.T) {
	d, s := begun(t, 10000)
	l := []api.Change{change(1, 9), change(2, 7), change(3, 1), change(4, api.MaxXid)}
	writes(t, s, 7, api.OK, l...)
	knows(t, s, [2]int{7, 1})
	lists(t, d, named(7, 0))
	reads(t, s, 7, 0, api.OK, l...)
}

// TestS2Bytes: byte by byte, by hand.
func TestS2Bytes(t *testing.T) {
	d, s := begun(t, 10000)
	first := api.Change{Lsn: 300, Xid: 7, Kind: api.RecUpdate, Table: 2, Old: row(number(-1)), New: row(text("ab"), truth(1), api.Value{})}
	second := api.Change{Lsn: 16384, Xid: api.MaxXid, Kind: api.RecDelete, Table: 128}
	writes(t, s, 7, api.OK, first, second)
	frame := func(payload string) string {
		length := string([]byte{0, byte(len(payload))})
		c := crc32.Checksum([]byte(length+payload), crc32.MakeTable(crc32.Castagnoli))
		return "\xc7" + length + string([]byte{byte(c), byte(c >> 8), byte(c >> 16), byte(c >> 24)}) + payload
	}
	want := frame("\xac\x02"+"\x07"+"\x04"+"\x02"+"\x03\x01\x01\x01"+"\x07\x03\x02\x02ab\x04\x00") +
		frame("\x80\x80\x01"+"\xff\xff\xff\xff\x07"+"\x05"+"\x80\x01"+"\x01\x00"+"\x01\x00")
	holds(t, d, api.File{Name: "spill.a.7.0", Bytes: want})
	if d.Pending("spill.a.7.0") != len(want) {
		t.Errorf("pending: %d of %d", d.Pending("spill.a.7.0"), len(want))
	}
}

// TestS2Acts: a Create and an Append, and no Sync; where the disk dies in one, what was done ahead of it is there.
func TestS2Acts(t *testing.T) {
	d, s := begun(t, 10000)
	l := changes(1, 7, 5)
	is(t, "FailSync", d.FailSync(1), api.OK)
	costs(t, d, 2, "Write", func() { writes(t, s, 7, api.OK, l...) })
	d, s = begun(t, 10000)
	writes(t, s, 7, api.OK, l...)
	writes(t, s, 7, api.OK, l...)
	if n := len(laid(l...)); d.Pending(named(7, 0)) != n || d.Pending(named(7, 1)) != n {
		t.Errorf("pending: %d, %d, want %d", d.Pending(named(7, 0)), d.Pending(named(7, 1)), n)
	}
	for n, names := range [][]string{{named(7, 0)}, {named(7, 0), named(7, 1)}} {
		d, s := begun(t, 10000)
		writes(t, s, 7, api.OK, l...)
		is(t, "Arm", d.Arm(n+1), api.OK)
		writes(t, s, 7, api.ErrDead, change(9, 7))
		lists(t, d, names...)
		knows(t, s, [2]int{7, 1})
		cursorNot(t, s, 7, 1, api.ErrSpillNone)
		writes(t, s, 7, api.ErrDead, change(9, 7))
		revive(t, d)
		if n == 1 {
			holds(t, d, api.File{Name: named(7, 0), Bytes: laid(l...)}, api.File{Name: named(7, 1)})
		}
		knows(t, s, [2]int{7, 1})
		writes(t, s, 7, api.OK, change(10, 7))
		holds(t, d, api.File{Name: named(7, 0), Bytes: laid(l...)}, api.File{Name: named(7, 1), Bytes: laid(change(10, 7))})
	}
}

// TestS2FirstSegmentDies: a transaction whose first Write did not come to its end has none.
func TestS2FirstSegmentDies(t *testing.T) {
	for n := 1; n <= 2; n++ {
		d, s := begun(t, 10000)
		is(t, "Arm", d.Arm(n), api.OK)
		writes(t, s, 7, api.ErrDead, change(9, 7))
		knows(t, s)
		cursorNot(t, s, 7, 0, api.ErrSpillNone)
		is(t, "Remove", s.Remove(7), api.OK)
		revive(t, d)
		knows(t, s)
		writes(t, s, 7, api.OK, change(10, 7))
		reads(t, s, 7, 0, api.OK, change(10, 7))
		knows(t, s, [2]int{7, 1})
	}
}

// TestS2Left: over a file that is there it is a Truncate and an Append, whatever bytes it has.
func TestS2Left(t *testing.T) {
	l := []api.Change{change(9, 7)}
	for _, left := range []string{"", "x", laid(change(1, 7)), strings.Repeat("y", 500)} {
		there := api.File{Name: named(7, 0), Bytes: left}
		for n := range 3 {
			d, s := begun(t, 1000)
			is(t, "Create", d.Create(there.Name), api.OK)
			is(t, "Append", d.Append(there.Name, left), api.OK)
			if n == 0 {
				costs(t, d, 2, "Write over a file", func() { writes(t, s, 7, api.OK, l...) })
				holds(t, d, api.File{Name: there.Name, Bytes: laid(l...)})
				reads(t, s, 7, 0, api.OK, l...)
				continue
			}
			is(t, "Arm", d.Arm(n), api.OK)
			writes(t, s, 7, api.ErrDead, l...)
			knows(t, s)
			revive(t, d)
			if n == 1 {
				holds(t, d, there)
			} else {
				holds(t, d, api.File{Name: there.Name})
			}
			writes(t, s, 7, api.OK, l...)
			reads(t, s, 7, 0, api.OK, l...)
		}
	}
}

// TestS2LeftAgainAndAgain: a Write that dies each time, in each act, till one does not.
func TestS2LeftAgainAndAgain(t *testing.T) {
	d, s := begun(t, 1000)
	writes(t, s, 7, api.OK, change(1, 7))
	for _, n := range []int{1, 2, 1, 2, 2, 1} {
		is(t, "Arm", d.Arm(n), api.OK)
		writes(t, s, 7, api.ErrDead, change(2, 7))
		knows(t, s, [2]int{7, 1})
		revive(t, d)
	}
	writes(t, s, 7, api.OK, change(3, 7))
	reads(t, s, 7, 0, api.OK, change(1, 7))
	reads(t, s, 7, 1, api.OK, change(3, 7))
}

func TestS2Room(t *testing.T) {
	l := changes(1, 7, 4)
	n := len(laid(l...))
	for _, taken := range []int{0, 1, 50} {
		d := loaded(t, n+taken, api.File{Name: "other", Bytes: strings.Repeat("o", taken)})
		s := opened(t, d, "a")
		costs(t, d, 2, "Write with just the room", func() { writes(t, s, 7, api.OK, l...) })
		if d.Free() != 0 {
			t.Errorf("Free: %d", d.Free())
		}
		reads(t, s, 7, 0, api.OK, l...)
		costs(t, d, 0, "Write without room", func() { writes(t, s, 7, api.ErrFileFull, l...) })
		knows(t, s, [2]int{7, 1})

		d = loaded(t, n+taken, api.File{Name: "other", Bytes: strings.Repeat("o", taken+1)})
		s = opened(t, d, "a")
		costs(t, d, 0, "Write with a byte too few", func() { writes(t, s, 7, api.ErrFileFull, l...) })
		lists(t, d, "other")
		knows(t, s)
		writes(t, s, 7, api.OK, l[:3]...)
		reads(t, s, 7, 0, api.OK, l[:3]...)
	}
}

// TestS2RoomAsItIs: what the cut of a file that is there would make free does not count.
func TestS2RoomAsItIs(t *testing.T) {
	n := len(laid(change(9, 7)))
	for free, want := range map[int]api.Errno{0: api.ErrFileFull, n - 1: api.ErrFileFull, n: api.OK, n + 1: api.OK} {
		d, s := begun(t, 200+free)
		left := api.File{Name: named(7, 0), Bytes: strings.Repeat("x", 200)}
		is(t, "Create", d.Create(left.Name), api.OK)
		is(t, "Append", d.Append(left.Name, left.Bytes), api.OK)
		writes(t, s, 7, want, change(9, 7))
		if want == api.OK {
			holds(t, d, api.File{Name: left.Name, Bytes: laid(change(9, 7))})
			knows(t, s, [2]int{7, 1})
		} else {
			holds(t, d, left)
			knows(t, s)
		}
	}
}

// TestS2FirstError: ErrArg, then ErrDead, then ErrFileFull.
func TestS2FirstError(t *testing.T) {
	d, s := begun(t, 60)
	many := changes(1, 7, 9)
	writes(t, s, 7, api.ErrFileFull, many...)
	writes(t, s, 0, api.ErrArg, many...)
	writes(t, s, 7, api.ErrArg, append(many, change(9, 7))...)
	writes(t, s, 7, api.OK, change(1, 7))
	kill(t, d)
	writes(t, s, 7, api.ErrDead, many...)
	writes(t, s, 7, api.ErrDead, change(1, 7))
	writes(t, s, 0, api.ErrArg, many...)
	writes(t, s, 0, api.ErrArg, change(1, 7))
	writes(t, s, 7, api.ErrArg)
	for _, c := range wrongChanges() {
		writes(t, s, 7, api.ErrArg, c)
	}
	writes(t, s, 7, api.ErrArg, append(many, change(9, 7))...)
	knows(t, s, [2]int{7, 1})
	revive(t, d)
	holds(t, d, api.File{Name: named(7, 0), Bytes: laid(change(1, 7))})
}

// TestS2Many: 100000 segments of one transaction, and not one more; then all of them are removed.
func TestS2Many(t *testing.T) {
	d, s := begun(t, 100000000)
	c := api.Change{Lsn: 1, Xid: 1, Kind: api.RecInsert, Table: 1}
	for k := range 100000 {
		if e := s.Write(7, []api.Change{c}); e != api.OK {
			t.Fatalf("Write of segment %d: %d", k, e)
		}
	}
	knows(t, s, [2]int{7, 100000})
	costs(t, d, 0, "one more", func() { writes(t, s, 7, api.ErrFileFull, c) })
	writes(t, s, 7, api.ErrArg)
	reads(t, s, 7, 99999, api.OK, c)
	cursorNot(t, s, 7, 100000, api.ErrSpillNone)
	writes(t, s, 8, api.OK, c)
	knows(t, s, [2]int{7, 100000}, [2]int{8, 1})
	kill(t, d)
	writes(t, s, 7, api.ErrDead, c)
	revive(t, d)
	if n, e := d.Size(named(7, 99999)); n != len(laid(c)) || e != api.OK || len(d.List()) != 100001 {
		t.Errorf("the last one: %d, %d; %d files", n, e, len(d.List()))
	}
	is(t, "Remove", s.Remove(7), api.OK)
	lists(t, d, named(8, 0))
	writes(t, s, 7, api.OK, c)
	knows(t, s, [2]int{7, 1}, [2]int{8, 1})
}
