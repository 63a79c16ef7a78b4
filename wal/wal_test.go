package wal_test

import (
	"math"
	"strings"
	"testing"

	"confluence/api"
	"confluence/files"
	"confluence/wal"
)

func TestExamples(t *testing.T) {
	d, l := begun(t, 100000)
	appends(t, l, "a", 8192)
	stands(t, l, 8192, 8192, 8200)
	reads(t, l, 8192, "a", 8200)
	readsNot(t, l, 8200, api.ErrWalEnd)
	readsNot(t, l, 8193, api.ErrWalPlace)
	is(t, "Arm", d.Arm(2), api.OK)
	is(t, "Flush", l.Flush(), api.OK)
	stands(t, l, 8192, 8200, 8200)
	costs(t, d, 0, "Flush of nothing", func() { is(t, "Flush", l.Flush(), api.OK) })

	d, l = begun(t, 100000)
	big := strings.Repeat("x", 4000)
	appends(t, l, big, 8192)
	appends(t, l, big, 12199)
	reads(t, l, 12199, big, 16206)
	third := strings.Repeat("y", 4000)
	appends(t, l, third, 16384)
	holds(t, d, segment(1, framed(big), framed(big), noughts(178)), segment(2, framed(third)))
	if d.Pending("wal.000001") != 0 || d.Pending("wal.000002") != 4007 {
		t.Error("the first segment does not last, or the second one does")
	}
	reads(t, l, 12199, big, 16384)
	reads(t, l, 16206, third, 20391)
	trims(t, l, 16384, 1, api.OK)
	stands(t, l, 16384, 16384, 20391)
	readsNot(t, l, 8192, api.ErrWalGone)

	d = loaded(t, 100, segment(1, "x"))
	costs(t, d, 1, "Open", func() { stands(t, opened(t, d), 8192, 8192, 8192); holds(t, d, segment(1)) })
}

func TestG1Create(t *testing.T) {
	d := loaded(t, 10)
	costs(t, d, 1, "Create", func() {
		is(t, "Create", wal.Create(d), api.OK)
		holds(t, d, segment(1))
		is(t, "Create of one that is there", wal.Create(d), api.ErrFileThere)
	})
	is(t, "Create on a dead disk, where it is there", wal.Create(d), api.ErrDead)
	holds(t, loaded(t, 10, d.Files()...), segment(1))

	d = loaded(t, 10)
	is(t, "Arm", d.Arm(1), api.OK)
	is(t, "Create in which the disk dies", wal.Create(d), api.ErrDead)
	if len(d.List()) != 0 {
		t.Error("a file is there")
	}
}

// TestG1FirstAlone: only the segment 1 is asked for, and only it is made.
func TestG1FirstAlone(t *testing.T) {
	d := loaded(t, 100, segment(2, framed("b")))
	is(t, "Create", wal.Create(d), api.OK)
	holds(t, d, segment(1), segment(2, framed("b")))
	stands(t, opened(t, d), 8192, 8192, 8192)
	holds(t, d, segment(1))
	d = loaded(t, 100, segment(1, "bytes"))
	is(t, "Create", wal.Create(d), api.ErrFileThere)
	holds(t, d, segment(1, "bytes"))
}

func TestG3Lengths(t *testing.T) {
	d, l := begun(t, 100000)
	for _, n := range []int{0, 4001, 4002, 8192, 65536 + 5} {
		costs(t, d, 0, "a refused Append", func() { refuses(t, l, strings.Repeat("x", n), api.ErrWalLong) })
		is(t, "Crash", d.Crash(nil), api.OK)
		l = opened(t, d)
	}
	stands(t, l, 8192, 8192, 8192)
	for _, s := range []string{"x", "\x00", "\xc7", strings.Repeat("\x00", 4000), framed("within")} {
		at := l.End()
		appends(t, l, s, at)
		reads(t, l, at, s, at+7+len(s))
	}
}

func TestG3WithinASegment(t *testing.T) {
	d, l := begun(t, 100000)
	costs(t, d, 3, "three Appends", func() {
		appends(t, l, "a", 8192)
		appends(t, l, "bc", 8200)
		appends(t, l, "def", 8209)
		stands(t, l, 8192, 8192, 8219)
		holds(t, d, segment(1, framed("a"), framed("bc"), framed("def")))
		if d.Pending(named(1)) != 27 {
			t.Errorf("pending: %d", d.Pending(named(1)))
		}
	})
}

// TestG3Room: with how much room left which frame begins a new segment, and by how many acts.
func TestG3Room(t *testing.T) {
	for _, c := range []struct {
		room, frame int
		turns       bool
		acts        int
	}{
		{8, 8, false, 1}, {9, 8, false, 1}, {4007, 4007, false, 1}, {4006, 4006, false, 1},
		{0, 8, true, 3}, {0, 4007, true, 3},
		{1, 8, true, 4}, {7, 8, true, 4}, {8, 9, true, 4}, {4006, 4007, true, 4},
	} {
		d, l := begun(t, 100000)
		before := fill(t, l, c.room)
		full := 16384 - c.room
		stands(t, l, 8192, 8192, full)
		costs(t, d, c.acts, "Append", func() {
			at := full
			if c.turns {
				at = 16384
			}
			appends(t, l, sized(c.frame), at)
			if c.turns {
				stands(t, l, 8192, 16384, 16384+c.frame)
				holds(t, d, filled(1, before), segment(2, framed(sized(c.frame))))
			} else {
				stands(t, l, 8192, 8192, full+c.frame)
				holds(t, d, segment(1, before, framed(sized(c.frame))))
			}
		})
	}
}

// TestG3SyncOfWhatLasts: a segment that is left is synced, also if all of it lasts.
func TestG3SyncOfWhatLasts(t *testing.T) {
	d, l := begun(t, 100000)
	fill(t, l, 0)
	is(t, "Flush", l.Flush(), api.OK)
	stands(t, l, 8192, 16384, 16384)
	costs(t, d, 3, "Append", func() { appends(t, l, "z", 16384) })

	d, l = begun(t, 100000)
	fill(t, l, 0)
	is(t, "Flush", l.Flush(), api.OK)
	is(t, "FailSync", d.FailSync(1), api.OK)
	refuses(t, l, "z", api.ErrWalDoubt)
	stands(t, l, 8192, 16384, 16384)
}

func TestG3Full(t *testing.T) {
	for _, room := range []int{0, 7, 8, 100, 4006} {
		d, l := begunAt(t, 100000, 100000)
		fill(t, l, room)
		start := 8192 * 100000
		end := start + size - room
		stands(t, l, start, start, end)
		costs(t, d, 0, "a refused Append", func() { refuses(t, l, sized(room+max(1, 8-room)), api.ErrWalFull) })
		stands(t, l, start, start, end)
	}
	_, l := begunAt(t, 100000, 100000)
	appends(t, l, sized(4007), 819200000)
	appends(t, l, sized(4007), 819204007)
	refuses(t, l, sized(179), api.ErrWalFull)
	refuses(t, l, "", api.ErrWalLong)
	is(t, "Flush, which is not in doubt", l.Flush(), api.OK)
	appends(t, l, sized(178), 819208014)
	stands(t, l, 819200000, 819208014, 819208192)
	refuses(t, l, "a", api.ErrWalFull)
	reads(t, l, 819208014, sized(178), 819208192)
	readsNot(t, l, 819208192, api.ErrWalEnd)
	is(t, "Flush", l.Flush(), api.OK)
	stands(t, l, 819200000, 819208192, 819208192)
}

// TestG3LastButOne: the segment 100000 itself is begun.
func TestG3LastButOne(t *testing.T) {
	d, l := begunAt(t, 100000, 99999)
	appends(t, l, sized(4007), 8192*99999)
	appends(t, l, sized(4007), 8192*99999+4007)
	appends(t, l, sized(179), 819200000)
	holds(t, d, filled(99999, framed(sized(4007)), framed(sized(4007))), segment(100000, framed(sized(179))))
	stands(t, l, 8192*99999, 819200000, 819200179)
	appends(t, l, sized(4007), 819200179)
	refuses(t, l, sized(4007), api.ErrWalFull)
	stands(t, l, 8192*99999, 819200000, 819204186)
}

func TestG4Flush(t *testing.T) {
	d, l := begun(t, 100000)
	costs(t, d, 0, "Flush of an empty log", func() { is(t, "Flush", l.Flush(), api.OK) })
	is(t, "Crash", d.Crash(nil), api.OK)
	l = opened(t, d)
	appends(t, l, "a", 8192)
	appends(t, l, "b", 8200)
	costs(t, d, 1, "Flush twice", func() {
		is(t, "Flush", l.Flush(), api.OK)
		stands(t, l, 8192, 8208, 8208)
		if d.Pending(named(1)) != 0 {
			t.Error("bytes are pending")
		}
		is(t, "Flush", l.Flush(), api.OK)
		stands(t, l, 8192, 8208, 8208)
	})
}

// TestG4LastSegmentAlone: where a segment was begun, a Flush asks for that one alone.
func TestG4LastSegmentAlone(t *testing.T) {
	d, l := begun(t, 100000)
	appends(t, l, sized(4007), 8192)
	appends(t, l, sized(4007), 12199)
	appends(t, l, sized(4007), 16384)
	costs(t, d, 1, "Flush", func() {
		is(t, "Flush", l.Flush(), api.OK)
		stands(t, l, 8192, 20391, 20391)
		if d.Pending(named(2)) != 0 {
			t.Error("bytes are pending")
		}
	})
}

// TestG4NoDisk: First, End and Flushed are told of a dead disk.
func TestG4NoDisk(t *testing.T) {
	d, l := begunAt(t, 100000, 7)
	appends(t, l, "a", 7*8192)
	is(t, "Flush", l.Flush(), api.OK)
	appends(t, l, "b", 7*8192+8)
	is(t, "Arm", d.Arm(1), api.OK)
	is(t, "Create", d.Create("x"), api.ErrDead)
	stands(t, l, 7*8192, 7*8192+8, 7*8192+16)
}

// TestApart: two logs on two disks do not disturb one another, nor does a log other files.
func TestApart(t *testing.T) {
	d, l := begun(t, 100000)
	other, m := begun(t, 100000)
	is(t, "Create", d.Create("base"), api.OK)
	is(t, "Append", d.Append("base", "bytes"), api.OK)
	appends(t, l, "a", 8192)
	appends(t, m, "bc", 8192)
	is(t, "FailSync", d.FailSync(1), api.OK)
	is(t, "Flush", l.Flush(), api.ErrWalDoubt)
	is(t, "Flush", m.Flush(), api.OK)
	stands(t, l, 8192, 8192, 8200)
	stands(t, m, 8192, 8201, 8201)
	holds(t, other, segment(1, framed("bc")))
	holds(t, d, api.File{Name: "base", Bytes: "bytes"}, segment(1, framed("a")))
	l = opened(t, d)
	if d.Pending("base") != 5 {
		t.Error("a file that is no segment was synced")
	}
	trims(t, l, math.MaxInt, 0, api.OK)
	holds(t, d, api.File{Name: "base", Bytes: "bytes"}, segment(1, framed("a")))
}

// TestAnyDiskState: an old log of a disk that has crashed ends its calls, whatever the files are by then.
func TestAnyDiskState(t *testing.T) {
	for _, spoil := range []func(d *files.Disk){
		func(d *files.Disk) { d.Crash(nil) },
		func(d *files.Disk) { d.Crash([]api.Keep{{Name: named(2), Bytes: 3}}) },
		func(d *files.Disk) { d.Remove(named(1)) },
		func(d *files.Disk) { d.Remove(named(2)) },
		func(d *files.Disk) { d.Truncate(named(1), 5) },
		func(d *files.Disk) { d.Append(named(1), "more") },
		func(d *files.Disk) { d.Create(named(3)) },
		func(d *files.Disk) { d.Rename(named(2), named(1)) },
	} {
		d, l := begun(t, 100000)
		for range 3 {
			l.Append(sized(4000))
		}
		spoil(d)
		for _, lsn := range []int{math.MinInt, 0, 8192, 8193, 12192, 16192, 16193, 16384, 20000, math.MaxInt} {
			l.Read(lsn)
			scanned(l, lsn)
		}
		for range 3 {
			l.Append(sized(4000))
			l.Flush()
		}
		l.Trim(math.MaxInt)
		l.Read(l.First())
		scanned(l, 0)
	}
}
