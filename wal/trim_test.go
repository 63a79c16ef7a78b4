package wal_test

import (
	"math"
	"testing"

	"confluence/api"
)

func TestG8Trim(t *testing.T) {
	for _, c := range []struct{ lsn, n int }{
		{math.MinInt, 0}, {-1, 0}, {0, 0}, {8192, 0}, {3 * size, 0}, {4*size - 1, 0},
		{4 * size, 1}, {4*size + 1, 1}, {5*size - 1, 1}, {5 * size, 2}, {6 * size, 3}, {7*size - 1, 3},
		{7 * size, 4}, {7*size + 1, 4}, {8 * size, 4}, {9 * size, 4}, {math.MaxInt - 1, 4}, {math.MaxInt, 4},
	} {
		d, l, want := rows(t)
		before := bytesOf(t, d)
		costs(t, d, c.n, "Trim", func() {
			trims(t, l, c.lsn, c.n, api.OK)
			trims(t, l, c.lsn, 0, api.OK)
			stands(t, l, (3+c.n)*size, 7*size+8, 7*size+17)
			holds(t, d, before[c.n:]...)
			var left []entry
			for _, x := range want[:6] {
				if x.at >= (3+c.n)*size {
					left = append(left, x)
				} else {
					readsNot(t, l, x.at, api.ErrWalGone)
				}
			}
			scans(t, l, 0, left...)
			scans(t, l, l.First(), left...)
		})
	}
}

// TestG8Last: the last segment stays, also where it is full, or has no record.
func TestG8Last(t *testing.T) {
	_, l := begun(t, 100000)
	trims(t, l, math.MaxInt, 0, api.OK)
	stands(t, l, 8192, 8192, 8192)
	fill(t, l, 0)
	trims(t, l, 16384, 0, api.OK)
	stands(t, l, 8192, 8192, 16384)
	appends(t, l, "z", 16384)
	trims(t, l, 16384, 1, api.OK)
	stands(t, l, 16384, 16384, 16392)
	reads(t, l, 16384, "z", 16392)
}

// TestG8Dies: those that were removed are gone, and First says so; the log is not in doubt by that.
func TestG8Dies(t *testing.T) {
	for n := 1; n <= 3; n++ {
		d, l, _ := rows(t)
		before := bytesOf(t, d)
		is(t, "Arm", d.Arm(n), api.OK)
		trims(t, l, 6*size, 0, api.ErrDead)
		stands(t, l, (2+n)*size, 7*size+8, 7*size+17)
		trims(t, l, 6*size, 0, api.ErrDead)
		stands(t, l, (2+n)*size, 7*size+8, 7*size+17)
		readsNot(t, l, (2+n)*size-1, api.ErrWalGone)
		trims(t, l, 0, 0, api.OK)
		is(t, "Crash", d.Crash([]api.Keep{{Name: named(7), Bytes: 9}}), api.OK)
		holds(t, d, before[n-1:]...)
		stands(t, opened(t, d), (2+n)*size, 7*size+17, 7*size+17)
	}
}

// TestG8OpenedAnew: a log that was trimmed is found as it is.
func TestG8OpenedAnew(t *testing.T) {
	d, l, want := rows(t)
	is(t, "Flush", l.Flush(), api.OK)
	trims(t, l, 6*size, 3, api.OK)
	costs(t, d, 0, "Open", func() {
		m := opened(t, d)
		stands(t, m, 6*size, 7*size+17, 7*size+17)
		scans(t, m, 0, want[2:]...)
	})
}
