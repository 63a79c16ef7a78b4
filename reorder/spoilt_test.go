package reorder_test

import (
	"fmt"
	"testing"

	"confluence/api"
)

// spilled is a buffer whose transaction 1 has three segments of three changes and two changes at hand, and another that is open.
func spilled(t *testing.T) (*bench, []api.Change) {
	t.Helper()
	x := begun(t, 100000, 96)
	x.begin(1, 1)
	x.begin(2, 2)
	var l []api.Change
	for lsn := 10; lsn <= 20; lsn++ {
		l = append(l, bare(lsn, 1))
	}
	x.add(l...)
	x.counts(64, 2, 3, 2)
	return x, l
}

// spoils are the ways in which somebody may take away what a file has from one of its changes on; each change is of as many bytes as the others.
var spoils = []struct {
	what string
	do   func(x *bench, name string, place, size int)
	want api.Errno
}{
	{"cut behind its first byte", func(x *bench, name string, place, size int) { x.d.Truncate(name, place*size+1) }, api.ErrSpillForm},
	{"cut ahead of its last byte", func(x *bench, name string, place, size int) { x.d.Truncate(name, place*size+size-1) }, api.ErrSpillForm},
	{"another byte", func(x *bench, name string, place, size int) {
		n, _ := x.d.Size(name)
		s, _ := x.d.Read(name, 0, n)
		x.replace(name, s[:place*size+5]+string(s[place*size+5]^1)+s[place*size+6:])
	}, api.ErrSpillForm},
	{"other bytes", func(x *bench, name string, place, size int) {
		s, _ := x.d.Read(name, 0, place*size)
		x.replace(name, s+"what is no change, whatever stands here")
	}, api.ErrSpillForm},
}

// TestU6Unread: a first change that cannot be read, of whichever segment: the error, and nothing is changed: nothing is held, and all may go on.
func TestU6Unread(t *testing.T) {
	size := len(written(t, bare(10, 1)))
	for k := range 3 {
		name := fmt.Sprintf("spill.a.1.%d", k)
		for _, spoil := range spoils {
			x, l := spilled(t)
			n, _ := x.d.Size(name)
			was, _ := x.d.Read(name, 0, n)
			spoil.do(x, name, 0, size)
			x.unchanged(spoil.what, func() {
				x.commitsNot(1, spoil.want)
				x.commitsNot(1, spoil.want)
			})
			// No stream is open.
			x.add(bare(30, 2))
			x.whole(2, bare(30, 2))
			x.counts(64, 2, 3, 1)
			x.replace(name, was)
			x.whole(1, l...)
			x.clean()
		}
		x, _ := spilled(t)
		is(t, "Remove", x.d.Remove(name), api.OK)
		x.unchanged("a file that is gone", func() { x.commitsNot(1, api.ErrSpillNone) })
		x.add(bare(30, 1))
		x.abort(1)
		x.whole(2)
		x.clean()
	}
}

// TestU6UnreadFirst: the error is that of the first segment that cannot be read.
func TestU6UnreadFirst(t *testing.T) {
	for _, kinds := range [][]api.Errno{{0, 141, 140}, {0, 140, 141}, {141, 140, 140}, {140, 141, 0}, {140, 0, 141}, {0, 0, 141}} {
		x, _ := spilled(t)
		want := api.OK
		for k, kind := range kinds {
			name := fmt.Sprintf("spill.a.1.%d", k)
			switch kind {
			case api.ErrSpillForm:
				x.replace(name, "no change")
			case api.ErrSpillNone:
				x.d.Remove(name)
			}
			if want == api.OK {
				want = kind
			}
		}
		x.unchanged("Commit", func() { x.commitsNot(1, want) })
		x.kill()
		x.commitsNot(1, api.ErrDead)
		x.counts(64, 2, 3, 2)
		x.revive()
		x.commitsNot(1, want)
		x.abort(1)
		x.abort(2)
		x.clean()
	}
}

// TestU6UnreadBack: what was taken back is read, too, on the way to the first one that was not.
func TestU6UnreadBack(t *testing.T) {
	x := begun(t, 100000, 96)
	x.begin(1, 1)
	x.part(2, 1, 2)
	x.add(bares(2, 10, 11, 12)...)
	x.add(bare(13, 1))
	x.back(2)
	n, _ := x.d.Size("spill.a.1.0")
	x.d.Truncate("spill.a.1.0", n-1)
	x.unchanged("Commit", func() { x.commitsNot(1, api.ErrSpillForm) })
	x.d.Truncate("spill.a.1.0", 0)
	x.whole(1, bare(13, 1))
	x.clean()
}

// TestU7Unread: a later change of a segment that cannot be read: the one ahead of it is told all the same, then the error comes for ever; the stream never ends.
func TestU7Unread(t *testing.T) {
	size := len(written(t, bare(10, 1)))
	for k := range 3 {
		name := fmt.Sprintf("spill.a.1.%d", k)
		for place := 1; place < 3; place++ {
			for _, spoil := range spoils {
				x, l := spilled(t)
				spoil.do(x, name, place, size)
				s := x.commit(1)
				told := 3*k + place
				x.tells(s, l[:told]...)
				// Of this segment nothing is held any more; of those ahead of it nothing, of those behind it one each.
				left := 2 + 2 - k
				x.counts(32*left, left, 3, 2)
				x.nothing(s, spoil.want)
				x.closed()
				x.counts(32*left, left, 3, 2)
				x.oldest(1)
				x.lists("spill.a.1.0", "spill.a.1.1", "spill.a.1.2")
				// It stays so, whatever becomes of the disk.
				x.kill()
				x.nothing(s, spoil.want)
				x.revive()
				x.replace(name, written(t, l[3*k:3*k+3]...))
				x.nothing(s, spoil.want)
				x.closed()
			}
		}
	}
}

// TestU7UnreadWhile: the file is spoilt, taken away, or the disk dies, while the stream is told: what was held is told.
func TestU7UnreadWhile(t *testing.T) {
	for k := range 3 {
		name := fmt.Sprintf("spill.a.1.%d", k)
		for place := range 3 {
			for _, kind := range []api.Errno{api.ErrSpillForm, api.ErrSpillNone, api.ErrDead} {
				x, l := spilled(t)
				s := x.commit(1)
				told := 3*k + place
				x.tells(s, l[:told]...)
				switch kind {
				case api.ErrSpillForm:
					x.replace(name, "")
				case api.ErrSpillNone:
					is(t, "Remove", x.d.Remove(name), api.OK)
				case api.ErrDead:
					x.kill()
				}
				before := x.b.Counts()
				x.tells(s, l[told])
				x.counts(before.Bytes-32, before.Changes-1, 3, 2)
				x.nothing(s, kind)
				if kind == api.ErrDead {
					x.revive()
				}
				x.nothing(s, kind)
				x.closed()
			}
		}
	}
}

// TestU7UnreadMemory: while what is told stands in memory no file is read.
func TestU7UnreadMemory(t *testing.T) {
	x, l := spilled(t)
	s := x.commit(1)
	x.tells(s, l[:9]...)
	for k := range 3 {
		is(t, "Remove", x.d.Remove(fmt.Sprintf("spill.a.1.%d", k)), api.OK)
	}
	x.kill()
	x.tells(s, l[9:]...)
	x.counts(0, 0, 3, 2)
	x.nothing(s, api.ErrDead)
	x.revive()
	x.nothing(s, api.OK)
	x.counts(0, 0, 3, 1)
	x.abort(2)
	x.clean()
}

// TestU7UnreadPassed: what cannot be read behind changes that are passed over.
func TestU7UnreadPassed(t *testing.T) {
	x := begun(t, 100000, 96)
	x.begin(1, 1)
	x.part(2, 1, 2)
	x.add(bare(10, 1), bare(11, 2), bare(12, 2))
	x.add(bare(13, 1))
	x.back(2)
	n, _ := x.d.Size("spill.a.1.0")
	x.d.Truncate("spill.a.1.0", n-1)
	s := x.commit(1)
	x.counts(64, 2, 1, 1)
	x.tells(s, bare(10, 1))
	x.counts(32, 1, 1, 1)
	x.nothing(s, api.ErrSpillForm)
	x.closed()
}
