package spill_test

import (
	"math"
	"strings"
	"testing"

	"confluence/api"
	"confluence/files"
	"confluence/spill"
)

func TestS5Cursor(t *testing.T) {
	d, s := several(t, 3)
	none := [][2]int{{7, -1}, {7, 3}, {7, 4}, {7, math.MaxInt}, {7, math.MinInt}, {3, 1}, {3, -1}, {77, 1}}
	for _, xid := range numbers() {
		if xid != 77 {
			none = append(none, [2]int{xid, 0}, [2]int{xid, -1}, [2]int{xid, 1})
		}
	}
	costs(t, d, 0, "Cursor and Next", func() {
		for _, x := range none {
			cursorNot(t, s, x[0], x[1], api.ErrSpillNone)
		}
		for k := range 3 {
			reads(t, s, 7, k, api.OK, changes(10*(k+1), 7, k+1)...)
		}
	})
	kill(t, d)
	for _, x := range none {
		cursorNot(t, s, x[0], x[1], api.ErrSpillNone)
	}
	for k := range 3 {
		cursorNot(t, s, 7, k, api.ErrDead)
	}
}

// TestS5Crash: a crash that keeps none of a segment's bytes, or some, leaves what it leaves; the segments are there still.
func TestS5Crash(t *testing.T) {
	d, s := several(t, 3)
	whole := len(laid(change(20, 7)))
	is(t, "Crash", d.Crash([]api.Keep{{Name: named(7, 1), Bytes: whole}, {Name: named(7, 2), Bytes: 9}}), api.OK)
	knows(t, s, [2]int{3, 1}, [2]int{7, 3}, [2]int{77, 1})
	reads(t, s, 7, 0, api.OK)
	reads(t, s, 7, 1, api.OK, change(20, 7))
	reads(t, s, 7, 2, api.ErrSpillForm)
}

// TestS5CursorOfNoFile: of a file that others have removed there is a cursor, which finds nothing.
func TestS5CursorOfNoFile(t *testing.T) {
	d, s := several(t, 2)
	is(t, "Remove of a file", d.Remove(named(7, 1)), api.OK)
	c := cursor(t, s, 7, 1)
	ends(t, c, api.ErrSpillNone)
	is(t, "Create", d.Create(named(7, 1)), api.OK)
	ends(t, c, api.OK)
	is(t, "Append", d.Append(named(7, 1), laid(change(4, 4))), api.OK)
	tells(t, c, change(4, 4))
	ends(t, c, api.OK)
}

// TestS5Dead: a dead disk is told first, wherever the cursor is; behind a crash it goes on where it was.
func TestS5Dead(t *testing.T) {
	l := changes(1, 7, 4)
	for n := range len(l) + 1 {
		d, s := begun(t, 10000)
		writes(t, s, 7, api.OK, l...)
		c := cursor(t, s, 7, 0)
		tells(t, c, l[:n]...)
		kill(t, d)
		ends(t, c, api.ErrDead)
		revive(t, d)
		tells(t, c, l[n:]...)
		ends(t, c, api.OK)
		kill(t, d)
		ends(t, c, api.ErrDead)
	}
	d, s := begun(t, 10000)
	writes(t, s, 7, api.OK, l...)
	c := cursor(t, s, 7, 0)
	replace(t, d, named(7, 0), "spoilt")
	kill(t, d)
	ends(t, c, api.ErrDead)
	revive(t, d)
	ends(t, c, api.ErrSpillForm)
	is(t, "Remove of a file", d.Remove(named(7, 0)), api.OK)
	kill(t, d)
	ends(t, c, api.ErrDead)
	revive(t, d)
	ends(t, c, api.ErrSpillNone)
}

// TestS5Gone: of a file that is there no more, wherever the cursor is, be it removed by others, by the store, or by another one.
func TestS5Gone(t *testing.T) {
	l := changes(1, 7, 3)
	for what, remove := range map[string]func(d *files.Disk, s *spill.Store) api.Errno{
		"by others":     func(d *files.Disk, s *spill.Store) api.Errno { return d.Remove(named(7, 0)) },
		"by a new name": func(d *files.Disk, s *spill.Store) api.Errno { return d.Rename(named(7, 0), "other") },
		"by Remove":     func(d *files.Disk, s *spill.Store) api.Errno { return s.Remove(7) },
		"by Open": func(d *files.Disk, s *spill.Store) api.Errno {
			_, e := spill.Open(d, "a")
			return e
		},
	} {
		for n := range len(l) + 1 {
			d, s := begun(t, 10000)
			writes(t, s, 7, api.OK, l...)
			c := cursor(t, s, 7, 0)
			tells(t, c, l[:n]...)
			is(t, what, remove(d, s), api.OK)
			ends(t, c, api.ErrSpillNone)
			is(t, "Create", d.Create(named(7, 0)), api.OK)
			is(t, "Append", d.Append(named(7, 0), laid(l...)), api.OK)
			tells(t, c, l[n:]...)
			ends(t, c, api.OK)
		}
	}
}

// TestS5Cut: a file that is cut at each place, ahead of the cursor or behind it.
func TestS5Cut(t *testing.T) {
	l := changes(1, 7, 3)
	bytes := laid(l...)
	starts := []int{0, len(laid(l[0])), len(laid(l[:2]...)), len(bytes)}
	for n := range len(l) + 1 {
		for size := range len(bytes) + 1 {
			d, s := begun(t, 10000)
			writes(t, s, 7, api.OK, l...)
			c := cursor(t, s, 7, 0)
			tells(t, c, l[:n]...)
			is(t, "Truncate", d.Truncate(named(7, 0), size), api.OK)
			end, whole := api.ErrSpillForm, n
			for k := n; k < len(starts) && starts[k] <= size; k++ {
				whole = k
				if starts[k] == size {
					end = api.OK
				}
			}
			tells(t, c, l[n:whole]...)
			ends(t, c, end)
			is(t, "Append", d.Append(named(7, 0), bytes[size:]), api.OK)
			tells(t, c, l[whole:]...)
			ends(t, c, api.OK)
		}
	}
}

// TestS5Longer: what is laid behind a file's end is read, also by a cursor that was at the end.
func TestS5Longer(t *testing.T) {
	d, s := begun(t, 10000)
	writes(t, s, 7, api.OK, change(1, 7))
	c := cursor(t, s, 7, 0)
	tells(t, c, change(1, 7))
	ends(t, c, api.OK)
	is(t, "Append", d.Append(named(7, 0), laid(change(1, 9), change(1, 7))), api.OK)
	tells(t, c, change(1, 9), change(1, 7))
	ends(t, c, api.OK)
	for _, junk := range []string{"\x00", "x", "\xc7", strings.Repeat("\x00", 100), laid(change(3, 7))[1:], laid(change(3, 7))[:20]} {
		d, s := begun(t, 10000)
		writes(t, s, 7, api.OK, change(1, 7))
		is(t, "Append", d.Append(named(7, 0), junk), api.OK)
		reads(t, s, 7, 0, api.ErrSpillForm, change(1, 7))
		is(t, "Append", d.Append(named(7, 0), strings.Repeat("y", 5000)), api.OK)
		reads(t, s, 7, 0, api.ErrSpillForm, change(1, 7))
	}
}

// TestS5Spoilt: at whatever place a file is spoilt, what stands ahead of it is read; the cursor stays there till it is mended.
func TestS5Spoilt(t *testing.T) {
	l := changes(1, 7, 3)
	bytes := laid(l...)
	for i := range len(bytes) {
		whole := 0
		for len(laid(l[:whole+1]...)) <= i {
			whole++
		}
		for _, turn := range []byte{1, 128, 255} {
			d, s := begun(t, 10000)
			writes(t, s, 7, api.OK, l...)
			bad := []byte(bytes)
			bad[i] ^= turn
			replace(t, d, named(7, 0), string(bad))
			c := cursor(t, s, 7, 0)
			tells(t, c, l[:whole]...)
			ends(t, c, api.ErrSpillForm)
			replace(t, d, named(7, 0), bytes)
			tells(t, c, l[whole:]...)
			ends(t, c, api.OK)
		}
	}
}

// TestS5BehindIsNotLookedAt: what stands behind a change may be anything, also where it is very long.
func TestS5BehindIsNotLookedAt(t *testing.T) {
	greatest := api.Change{Lsn: math.MaxInt, Xid: api.MaxXid, Kind: api.RecUpdate, Table: math.MaxInt, Old: wide(), New: wide()}
	for _, first := range []api.Change{change(1, 7), {Lsn: 1, Xid: 1, Kind: api.RecInsert, Table: 1}, greatest} {
		for _, behind := range []string{"\x00", "\xc7", "x", laid(first)[:9], strings.Repeat("\xc7", 20000), strings.Repeat("\x00", 20000)} {
			d, s := begun(t, 100000)
			writes(t, s, 7, api.OK, first)
			is(t, "Append", d.Append(named(7, 0), behind), api.OK)
			reads(t, s, 7, 0, api.ErrSpillForm, first)
		}
	}
}

// TestS5SeveralCursors: each of them stands where it is, whatever the others do.
func TestS5SeveralCursors(t *testing.T) {
	d, s := begun(t, 10000)
	l := changes(1, 7, 6)
	writes(t, s, 7, api.OK, l...)
	writes(t, s, 7, api.OK, change(50, 7))
	a, b, other := cursor(t, s, 7, 0), cursor(t, s, 7, 0), cursor(t, s, 7, 1)
	tells(t, a, l[:3]...)
	tells(t, b, l[0])
	tells(t, other, change(50, 7))
	tells(t, a, l[3:]...)
	ends(t, a, api.OK)
	tells(t, b, l[1])
	reads(t, s, 7, 0, api.OK, l...)
	ends(t, other, api.OK)
	writes(t, s, 7, api.OK, change(60, 7))
	tells(t, b, l[2:]...)
	ends(t, b, api.OK)
	is(t, "Truncate", d.Truncate(named(7, 0), 3), api.OK)
	ends(t, a, api.ErrSpillForm)
	ends(t, b, api.ErrSpillForm)
	ends(t, other, api.OK)
}

// TestS5BehindRemoveAndWrite: a cursor is at a place of a file, whatever has come to stand there.
func TestS5BehindRemoveAndWrite(t *testing.T) {
	_, s := begun(t, 10000)
	l := []api.Change{change(1, 7), change(2, 7)}
	writes(t, s, 7, api.OK, l...)
	c := cursor(t, s, 7, 0)
	tells(t, c, l[0])
	is(t, "Remove", s.Remove(7), api.OK)
	ends(t, c, api.ErrSpillNone)
	writes(t, s, 7, api.OK, change(3, 9), change(4, 9), change(5, 9))
	tells(t, c, change(4, 9), change(5, 9)) // as many bytes as those ahead of it had
	ends(t, c, api.OK)
}
