package wal_test

import (
	"math"
	"testing"

	"confluence/api"
	"confluence/files"
	"confluence/wal"
)

// doubted holds a log in doubt against what it answers, on a disk that lives or is dead.
func doubted(t *testing.T, l *wal.Log, want api.Errno) {
	t.Helper()
	for range 2 {
		refuses(t, l, "x", want)
		refuses(t, l, sized(4007), want)
		refuses(t, l, "", api.ErrWalLong)
		refuses(t, l, sized(4008), api.ErrWalLong)
		is(t, "Flush in doubt", l.Flush(), want)
		for _, lsn := range []int{math.MinInt, 0, 16384, math.MaxInt} {
			trims(t, l, lsn, 0, want)
		}
	}
}

// turning is a log with a record that lasts, two that do not, and 100 bytes of room in its first segment.
func turning(t *testing.T, capacity int) (*files.Disk, *wal.Log, []string) {
	t.Helper()
	d, l := begun(t, capacity)
	payloads := leaving(100)
	for i, s := range payloads {
		appends(t, l, s, l.End())
		if i == 0 {
			is(t, "Flush", l.Flush(), api.OK)
		}
	}
	stands(t, l, 8192, 12199, 16284)
	return d, l, payloads
}

// wantTurning holds the log of turning against all that it answered ahead of the call that failed.
func wantTurning(t *testing.T, l *wal.Log, payloads []string) {
	t.Helper()
	stands(t, l, 8192, 12199, 16284)
	at := 8192
	for _, s := range payloads {
		reads(t, l, at, s, at+7+len(s))
		at += 7 + len(s)
	}
	for _, lsn := range []int{16284, 16285, 16384, 16385} {
		readsNot(t, l, lsn, api.ErrWalEnd)
	}
	scans(t, l, 0, entry{8192, payloads[0]})
	scans(t, l, 12199)
	scans(t, l, 16284)
	scans(t, l, 16384)
}

// TestG5Turn: an Append that begins a segment has four acts; whichever of them the disk dies in, what was done
// ahead of it is there, and the log is as it was.
func TestG5Turn(t *testing.T) {
	for n := 1; n <= 4; n++ {
		d, l, payloads := turning(t, 100000)
		is(t, "Arm", d.Arm(n), api.OK)
		refuses(t, l, sized(200), api.ErrDead)
		stands(t, l, 8192, 12199, 16284)
		doubted(t, l, api.ErrDead)
		readsNot(t, l, 8192, api.ErrDead)
		readsNot(t, l, 16284, api.ErrWalEnd)
		readsNot(t, l, 16384, api.ErrWalEnd)
		scans(t, l, 0)

		pending := []int{4085, 4185, 0, 0}[n-1]
		if d.Pending(named(1)) != pending || len(d.List()) != []int{1, 1, 1, 2}[n-1] {
			t.Errorf("death in act %d: pending %d, files %q", n, d.Pending(named(1)), d.List())
		}
		is(t, "Crash", d.Crash([]api.Keep{{Name: named(1), Bytes: pending}}), api.OK)
		doubted(t, l, api.ErrWalDoubt)
		wantTurning(t, l, payloads)
	}
}

// TestG5FailedSync: of an Append that begins a segment; the noughts stand there, and are no part of the log.
func TestG5FailedSync(t *testing.T) {
	d, l, payloads := turning(t, 100000)
	is(t, "FailSync", d.FailSync(1), api.OK)
	refuses(t, l, sized(200), api.ErrWalDoubt)
	holds(t, d, filled(1, framed(payloads[0]), framed(payloads[1]), framed(payloads[2])))
	wantTurning(t, l, payloads)
	doubted(t, l, api.ErrWalDoubt)
	wantTurning(t, l, payloads)
	stands(t, opened(t, d), 8192, 16284, 16284)
}

// TestG5NoRoom: for the noughts, for the frame in a new segment, for the frame in the last one.
func TestG5NoRoom(t *testing.T) {
	full := size - 100
	for _, c := range []struct {
		capacity int
		payload  string
		left     int // bytes of segment 1
		files    int
		end      int // when opened anew
	}{
		{full, "a", full, 1, 16284},
		{full + 7, "a", full, 1, 16284},
		{full, sized(200), full, 1, 16284},
		{full + 99, sized(200), full, 1, 16284},
		{full + 100, sized(200), size, 2, 16384},
		{size + 199, sized(200), size, 2, 16384},
	} {
		d, l, payloads := turning(t, c.capacity)
		refuses(t, l, c.payload, api.ErrWalDoubt)
		if n, _ := d.Size(named(1)); n != c.left || len(d.List()) != c.files {
			t.Errorf("capacity %d: the segment has %d bytes, the files are %q", c.capacity, n, d.List())
		}
		wantTurning(t, l, payloads)
		doubted(t, l, api.ErrWalDoubt)
		wantTurning(t, l, payloads)
		stands(t, opened(t, d), 8192, c.end, c.end)
	}
	d, l, _ := turning(t, size+200)
	appends(t, l, sized(200), 16384)
	if d.Free() != 0 {
		t.Errorf("Free: %d", d.Free())
	}
	is(t, "Flush of a full disk", l.Flush(), api.OK)
}

func TestG5Within(t *testing.T) {
	d, l, payloads := turning(t, 100000)
	is(t, "Arm", d.Arm(1), api.OK)
	refuses(t, l, "a", api.ErrDead)
	stands(t, l, 8192, 12199, 16284)
	doubted(t, l, api.ErrDead)
	is(t, "Crash", d.Crash([]api.Keep{{Name: named(1), Bytes: 4085}}), api.OK)
	wantTurning(t, l, payloads)
	doubted(t, l, api.ErrWalDoubt)
}

func TestG5Flush(t *testing.T) {
	d, l, payloads := turning(t, 100000)
	is(t, "FailSync", d.FailSync(1), api.OK)
	is(t, "Flush", l.Flush(), api.ErrWalDoubt)
	wantTurning(t, l, payloads)
	doubted(t, l, api.ErrWalDoubt)
	if d.Pending(named(1)) != 4085 {
		t.Errorf("pending: %d", d.Pending(named(1)))
	}
	is(t, "Arm", d.Arm(1), api.OK)
	is(t, "Create", d.Create("x"), api.ErrDead)
	doubted(t, l, api.ErrDead)

	d, l, payloads = turning(t, 100000)
	is(t, "Arm", d.Arm(1), api.OK)
	is(t, "Flush", l.Flush(), api.ErrDead)
	doubted(t, l, api.ErrDead)
	is(t, "Crash", d.Crash([]api.Keep{{Name: named(1), Bytes: 4085}}), api.OK)
	wantTurning(t, l, payloads)
	doubted(t, l, api.ErrWalDoubt)
}

// TestG5DiesElsewhere: a disk that has died by what others did puts the log in doubt when it is asked for an act, not ahead of that.
func TestG5DiesElsewhere(t *testing.T) {
	dead := func(room int) (*files.Disk, *wal.Log) {
		d, l := begunAt(t, 100000, 100000)
		fill(t, l, room)
		is(t, "Flush", l.Flush(), api.OK)
		is(t, "Arm", d.Arm(1), api.OK)
		is(t, "Create", d.Create("x"), api.ErrDead)
		return d, l
	}
	d, l := dead(100)
	is(t, "Flush where all lasts", l.Flush(), api.OK)
	trims(t, l, math.MaxInt, 0, api.OK)
	refuses(t, l, "", api.ErrWalLong)
	refuses(t, l, sized(101), api.ErrWalFull)
	is(t, "Flush where all lasts", l.Flush(), api.OK)
	refuses(t, l, sized(100), api.ErrDead)
	refuses(t, l, sized(101), api.ErrDead)
	is(t, "Flush in doubt", l.Flush(), api.ErrDead)
	trims(t, l, 0, 0, api.ErrDead)
	is(t, "Crash", d.Crash(nil), api.OK)
	doubted(t, l, api.ErrWalDoubt)

	d, l = begun(t, 1000)
	appends(t, l, "a", 8192)
	is(t, "Arm", d.Arm(1), api.OK)
	is(t, "Create", d.Create("x"), api.ErrDead)
	is(t, "Flush", l.Flush(), api.ErrDead)
	is(t, "Crash", d.Crash(nil), api.OK)
	doubted(t, l, api.ErrWalDoubt)
}
