package wal_test

import (
	"slices"
	"strings"
	"testing"

	"confluence/api"
	"confluence/files"
	"confluence/wal"
)

func opensNot(t *testing.T, d *files.Disk, want api.Errno) {
	t.Helper()
	if l, e := wal.Open(d); l != nil || e != want {
		t.Errorf("Open: %v, %d, want none, %d", l, e, want)
	}
}

func TestG2Refuses(t *testing.T) {
	d := loaded(t, 100)
	opensNot(t, d, api.ErrWalForm)
	for _, name := range []string{
		"wal", "wal.", "wal.1", "wal.00001", "wal.0000001", "wal.000000", "wal.100001", "wal.999999", "wal.-00001", "wal.00000a",
		"wal.00-001", "wal000001", "wal_000001", "awal.000001", "000001", "wal.000001.", "wal.wal.000001", "wal.0x0001", "wal.1_0000", "wal..00001",
	} {
		is(t, "Create of "+name, d.Create(name), api.OK)
	}
	opensNot(t, d, api.ErrWalForm)
	is(t, "Arm", d.Arm(1), api.OK)
	is(t, "Create", d.Create("x"), api.ErrDead)
	opensNot(t, d, api.ErrDead)
	if len(d.List()) != 20 {
		t.Errorf("the files are %q", d.List())
	}
	d = loaded(t, 100, segment(1, framed("a")))
	is(t, "Arm", d.Arm(1), api.OK)
	is(t, "Create", d.Create("x"), api.ErrDead)
	opensNot(t, d, api.ErrDead)
}

// spoilt is a frame that has a bit turned.
func spoilt(payload string) string {
	b := []byte(framed(payload))
	b[len(b)-1] ^= 4
	return string(b)
}

// opening is what Open makes of files.
type opening struct {
	what string
	l    []api.File
	end  int
	acts int
	left []api.File
}

func openings() []opening {
	a, b := framed("a"), framed("bb")
	other := api.File{Name: "other", Bytes: "xyz"}
	whole := []string{framed(sized(4007)), framed(sized(4007)), framed(sized(178))}
	return []opening{
		{"an empty segment", []api.File{segment(1)}, 8192, 0, []api.File{segment(1)}},
		{"frames", []api.File{segment(1, a, b)}, 8209, 0, []api.File{segment(1, a, b)}},
		{"one that begins further on", []api.File{segment(77, a)}, 77*8192 + 8, 0, []api.File{segment(77, a)}},
		{"the last one of all", []api.File{segment(100000, a)}, 819200008, 0, []api.File{segment(100000, a)}},
		{"no frame", []api.File{segment(1, "x")}, 8192, 1, []api.File{segment(1)}},
		{"a frame and no frame", []api.File{segment(1, a, "x")}, 8200, 1, []api.File{segment(1, a)}},
		{"a frame that is cut", []api.File{segment(1, a, b[:8])}, 8200, 1, []api.File{segment(1, a)}},
		{"a frame's first byte", []api.File{segment(1, a, b[:1])}, 8200, 1, []api.File{segment(1, a)}},
		{"a frame that is spoilt, and one behind it", []api.File{segment(1, a, spoilt("b"), b)}, 8200, 1, []api.File{segment(1, a)}},
		{"a frame without a payload, and one behind it", []api.File{segment(1, a, framed(""), b)}, 8200, 1, []api.File{segment(1, a)}},
		{"a nought, and a frame behind it", []api.File{segment(1, a, "\x00", b)}, 8200, 1, []api.File{segment(1, a)}},
		{"noughts behind frames", []api.File{segment(1, a, noughts(100))}, 8200, 1, []api.File{segment(1, a)}},
		{"noughts alone", []api.File{segment(1, noughts(100))}, 8192, 1, []api.File{segment(1)}},
		{"a full segment alone", []api.File{filled(1, a)}, 8200, 1, []api.File{segment(1, a)}},
		{"a full segment of noughts alone", []api.File{filled(3)}, 3 * 8192, 1, []api.File{segment(3)}},
		{"one that is full to its last byte", []api.File{segment(1, whole...)}, 16384, 0, []api.File{segment(1, whole...)}},
		{"that, of the greatest number", []api.File{segment(100000, whole...)}, 819208192, 0, []api.File{segment(100000, whole...)}},
		{"two segments", []api.File{filled(1, a), segment(2, b)}, 16393, 0, []api.File{filled(1, a), segment(2, b)}},
		{"a full one and an empty one", []api.File{filled(1, a), segment(2)}, 16384, 0, []api.File{filled(1, a), segment(2)}},
		{"one full to its last byte, and another", []api.File{segment(1, whole...), segment(2, b)}, 16393, 0, []api.File{segment(1, whole...), segment(2, b)}},
		{"full ones of noughts", []api.File{filled(4), filled(5), segment(6, b)}, 6*8192 + 9, 0, []api.File{filled(4), filled(5), segment(6, b)}},
		{"full ones of noughts, and an empty one", []api.File{filled(4), filled(5), segment(6)}, 6 * 8192, 0, []api.File{filled(4), filled(5), segment(6)}},
		{"full ones alone", []api.File{filled(4, a), filled(5, b)}, 5*8192 + 9, 1, []api.File{filled(4, a), segment(5, b)}},
		{"a full one and bytes", []api.File{filled(1, a), segment(2, "junk")}, 16384, 1, []api.File{filled(1, a), segment(2)}},
		{"a byte less than full", []api.File{segment(1, a, noughts(8183)), segment(2, b)}, 8200, 2, []api.File{segment(1, a)}},
		{"a byte more than full", []api.File{segment(1, a, noughts(8185)), segment(2, b)}, 8200, 2, []api.File{segment(1, a)}},
		{"frames to the last byte, and a byte more", []api.File{segment(1, append(whole, "\x00")...), segment(2, b)}, 16384, 2, []api.File{segment(1, whole...)}},
		{"frames to the last byte, and a frame more", []api.File{segment(1, append(whole, b)...), segment(2, b)}, 16384, 2, []api.File{segment(1, whole...)}},
		{"a frame that reaches behind the segment", []api.File{segment(1, whole[0], whole[1], framed(sized(179)))}, 16206, 1, []api.File{segment(1, whole[0], whole[1])}},
		{"many bytes more", []api.File{segment(1, a, strings.Repeat("x", 30000))}, 8200, 1, []api.File{segment(1, a)}},
		{"a byte among the noughts", []api.File{segment(1, a, noughts(8183), "\x01"), segment(2, b)}, 8200, 2, []api.File{segment(1, a)}},
		{"a byte ahead of the noughts", []api.File{filled(1, a, "\x01"), segment(2, b)}, 8200, 2, []api.File{segment(1, a)}},
		{"a frame among the noughts", []api.File{filled(1, a, "\x00", b), segment(2, b)}, 8200, 2, []api.File{segment(1, a)}},
		{"one that is not full, with more behind it", []api.File{segment(1, a), segment(2, b), segment(3)}, 8200, 2, []api.File{segment(1, a)}},
		{"an empty one, with more behind it", []api.File{segment(1), segment(2, b)}, 8192, 1, []api.File{segment(1)}},
		{"a gap behind one that is not full", []api.File{segment(1, a), segment(3, b)}, 8200, 1, []api.File{segment(1, a)}},
		{"a gap behind a full one", []api.File{filled(1, a), segment(3, b), segment(9, b)}, 8200, 3, []api.File{segment(1, a)}},
		{"a gap behind one that is full to its last byte", []api.File{segment(1, whole...), segment(3, b)}, 16384, 1, []api.File{segment(1, whole...)}},
		{"a gap, later on", []api.File{filled(6, a), segment(7, b), segment(9, a), segment(100000, a)}, 7*8192 + 9, 2, []api.File{filled(6, a), segment(7, b)}},
		{"names that are none", []api.File{other, {Name: "wal.000000", Bytes: a}, segment(2, b), {Name: "wal.100001", Bytes: "no"}}, 16393, 0,
			[]api.File{other, {Name: "wal.000000", Bytes: a}, segment(2, b), {Name: "wal.100001", Bytes: "no"}}},
		{"another file, and torn segments", []api.File{other, segment(1, a, "x"), segment(2, b)}, 8200, 2, []api.File{other, segment(1, a)}},
	}
}

func TestG2Opens(t *testing.T) {
	for _, o := range openings() {
		d := loaded(t, 100000, o.l...)
		costs(t, d, o.acts, o.what, func() {
			l := opened(t, d)
			first := l.First()
			stands(t, l, first, o.end, o.end)
			holds(t, d, o.left...)
		})
		is(t, "Crash", d.Crash(nil), api.OK)
		holds(t, d, o.left...)
		costs(t, d, 0, o.what+", opened again", func() {
			l := opened(t, d)
			stands(t, l, l.First(), o.end, o.end)
			is(t, "Flush", l.Flush(), api.OK)
		})
	}
}

// TestG2Dies: in whatever act of Open the disk dies, what was done by then stays done, and nothing else is.
func TestG2Dies(t *testing.T) {
	junk := func() *files.Disk {
		return loaded(t, 100000, filled(1, framed("a")), segment(2, framed("b"), "x"), segment(3), segment(5), segment(100000))
	}
	want := [][]api.File{
		{filled(1, framed("a")), segment(2, framed("b"), "x"), segment(3), segment(5), segment(100000)},
		{filled(1, framed("a")), segment(2, framed("b"), "x"), segment(3), segment(5)},
		{filled(1, framed("a")), segment(2, framed("b"), "x"), segment(3)},
		{filled(1, framed("a")), segment(2, framed("b"), "x")},
	}
	for n, l := range want {
		d := junk()
		is(t, "Arm", d.Arm(n+1), api.OK)
		opensNot(t, d, api.ErrDead)
		is(t, "Crash", d.Crash(nil), api.OK)
		holds(t, d, l...)
		stands(t, opened(t, d), 8192, 16392, 16392)
		holds(t, d, filled(1, framed("a")), segment(2, framed("b")))
	}
	d := junk()
	costs(t, d, 4, "Open", func() { opened(t, d) })
}

// unsynced is a disk with two segments whose bytes do not all last, and an act of junk behind the end.
func unsynced(t *testing.T) *files.Disk {
	t.Helper()
	d := loaded(t, 100000, segment(1, framed("a")), segment(2), filled(3), segment(4, framed("d")))
	is(t, "Append", d.Append(named(1), noughts(8184)), api.OK)
	is(t, "Append", d.Append(named(2), framed("b")+noughts(8184)), api.OK)
	is(t, "Append", d.Append(named(4), framed("e")+"junk"), api.OK)
	return d
}

func TestG2Syncs(t *testing.T) {
	d := unsynced(t)
	costs(t, d, 4, "Open", func() {
		stands(t, opened(t, d), 8192, 4*8192+16, 4*8192+16)
		for _, name := range d.List() {
			if d.Pending(name) != 0 {
				t.Errorf("of %s are pending: %d", name, d.Pending(name))
			}
		}
	})
	is(t, "Crash", d.Crash(nil), api.OK)
	scans(t, opened(t, d), 0, entry{8192, "a"}, entry{16384, "b"}, entry{4 * 8192, "d"}, entry{4*8192 + 8, "e"})
}

// TestG2SyncsRising: what is pending where a Sync fails, or the disk dies: the truncated one is done, and the Syncs that come ahead.
func TestG2SyncsRising(t *testing.T) {
	want := [][]int{{8184, 8192, 0, 8}, {0, 8192, 0, 8}, {0, 0, 0, 8}}
	for n, l := range want {
		for _, dies := range []bool{false, true} {
			d := unsynced(t)
			e := api.ErrFileSync
			if dies {
				e = api.ErrDead
				is(t, "Arm", d.Arm(n+2), api.OK)
			} else {
				is(t, "FailSync", d.FailSync(n+1), api.OK)
			}
			opensNot(t, d, e)
			var got []int
			for k := 1; k <= 4; k++ {
				got = append(got, d.Pending(named(k)))
			}
			if !slices.Equal(got, l) {
				t.Errorf("pending behind the failure at %d: %v, want %v", n, got, l)
			}
			if !dies {
				stands(t, opened(t, d), 8192, 4*8192+16, 4*8192+16)
			}
		}
	}
}

// TestG2NotInDoubt: a log that is opened anew goes on where the old one was in doubt.
func TestG2NotInDoubt(t *testing.T) {
	d, l := begun(t, 100000)
	appends(t, l, "a", 8192)
	is(t, "FailSync", d.FailSync(1), api.OK)
	is(t, "Flush", l.Flush(), api.ErrWalDoubt)
	m := opened(t, d)
	stands(t, m, 8192, 8200, 8200)
	appends(t, m, "b", 8200)
	is(t, "Flush", m.Flush(), api.OK)
	trims(t, m, 0, 0, api.OK)
	refuses(t, l, "c", api.ErrWalDoubt)
	is(t, "Flush of the old one", l.Flush(), api.ErrWalDoubt)
}
