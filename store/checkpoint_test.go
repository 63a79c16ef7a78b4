package store_test

import (
	"fmt"
	"slices"
	"strings"
	"testing"

	"confluence/api"
	"confluence/record"
)

// filled is a store with something of all, nothing of which is open.
func filled(t *testing.T) *desk {
	t.Helper()
	k := newDesk(t)
	_, e := k.s.CreateTable("gone", two, 0)
	k.ok(e)
	_, e = k.s.CreateTable("u", []api.Column{{Name: "n", Kind: api.Bool, Null: true}, {Name: "k", Kind: api.Text}}, 1)
	k.ok(e)
	x := k.begin()
	k.ok(k.s.Insert(x, "u", r(true, "b")), k.s.Insert(x, "u", r(nil, "")), k.s.Insert(x, "gone", r(1)), k.s.Insert(x, "t", r(2, "x")), k.s.Insert(x, "t", r(-3)))
	_, e = k.s.CommitFrom(x, "pub", 9000)
	k.ok(e)
	_, e = k.s.WidenTable("t", more)
	k.ok(e)
	_, e = k.s.DropTable("gone")
	k.ok(e)
	x = k.begin()
	k.ok(k.s.Update(x, "t", r(2, "y", true)), k.s.Savepoint(x, "s"), k.s.Insert(x, "t", r(5)), k.s.RollbackTo(x, "s"), k.s.Insert(x, "t", r(6)), k.s.Delete(x, "u", v("b")))
	_, e = k.s.CommitFrom(x, "a", 1)
	k.ok(e)
	x = k.begin()
	k.ok(k.s.Insert(x, "t", r(7)), k.s.Abort(x))
	return k
}

const (
	filledT = "(-3, null, null) (2, 'y', true) (6, null, null)"
	filledU = "(null, '')"
)

func (k *desk) isFilled() {
	k.t.Helper()
	k.is("t", k.rows(0, "t"), filledT)
	k.is("u", k.rows(0, "u"), filledU)
	k.is("Tables", k.told(), "t 1.2 (id int, name text null, more bool null) key id; u 3.1 (n bool null, k text) key k; ")
	k.is("origins", fmt.Sprint(k.s.Origin("a"), k.s.Origin("pub")), "1 9000")
}

func TestS13Checkpoint(t *testing.T) {
	k := filled(t)
	end := k.s.Log().End()
	k.lasts(false)
	k.seen = end
	at, e := k.s.Checkpoint()
	k.ok(e)
	k.is("its position", at, end)
	k.is("Based", k.s.Based(), end)
	k.logged("checkpoint next 11 table 4 t 1.2 (id int, name text null, more bool null) key id u 3.1 (n bool null, k text) key k")
	k.lasts(true)
	payload, _, _ := k.s.Log().Read(at)
	check, _ := record.Decode(payload)
	want := baseOf(end, check, []origin{{"a", 1}, {"pub", 9000}}, []line{{1, r(-3, nil, nil)}, {1, r(2, "y", true)}, {1, r(6, nil, nil)}, {3, r(nil, "")}})
	if got := fileOf(t, k.d, "base"); got != want.bytes() {
		t.Errorf("the base is %q, want %q", got, want.bytes())
	}
	k.is("pending of the base", k.d.Pending("base"), 0)
	k.is("files", k.d.List(), []string{"base", "wal.000001"})
	k.isFilled()
	k.crash()
	k.isFilled()
	k.is("Based", k.s.Based(), end)
	k.is("Begin", k.begin(), 11)
	_, e = k.s.CreateTable("v", two, 0)
	k.ok(e)
	k.is("the next table", k.s.Tables()[2].ID, 4)
}

func TestS13Busy(t *testing.T) {
	k := newDesk(t)
	x := k.begin()
	files := bytesOf(t, k.d)
	based := k.s.Based()
	k.refused("Checkpoint while one is open", api.ErrStoreBusy)(k.s.Checkpoint())
	if got := bytesOf(t, k.d); !slices.Equal(got, files) || k.s.Based() != based {
		t.Errorf("a Checkpoint that is refused leaves %q", got)
	}
	k.ok(k.s.Prepare(x, "w"))
	k.refused("Checkpoint while one waits", api.ErrStoreBusy)(k.s.Checkpoint())
	k.crash()
	k.refused("Checkpoint while one waits, behind a crash", api.ErrStoreBusy)(k.s.Checkpoint())
	k.ok(k.s.AbortPrepared("w"))
	_, e := k.s.Checkpoint()
	k.ok(e)
}

// TestS13Again: a checkpoint takes the place of the one ahead of it, also where nothing was done between.
func TestS13Again(t *testing.T) {
	k := filled(t)
	last := k.s.Based()
	for range 3 {
		at, e := k.s.Checkpoint()
		k.ok(e)
		k.is("Based", k.s.Based(), at)
		if at <= last {
			t.Errorf("a later checkpoint at %d, the one ahead at %d", at, last)
		}
		last = at
		k.isFilled()
		k.crash()
		k.isFilled()
	}
	k.logged()
}

// TestS13Left: a base.new that somebody has left is taken away.
func TestS13Left(t *testing.T) {
	k := filled(t)
	k.ok(k.d.Create("base.new"), k.d.Append("base.new", "junk"))
	_, e := k.s.Checkpoint()
	k.ok(e)
	k.is("files", k.d.List(), []string{"base", "wal.000001"})
	k.crash()
	k.isFilled()
}

// checkpointActs are those of Checkpoint on a store that is filled: a Sync of the log, base.new, eight frames, a Sync, a
// Rename, the record, a Sync.
const checkpointActs = 14

func TestS13Acts(t *testing.T) {
	costs(t, checkpointActs, "Checkpoint", func() *desk { return filled(t) }, func(k *desk) { k.s.Checkpoint() })
	costs(t, checkpointActs-1, "Checkpoint of a log that lasts", func() *desk {
		k := filled(t)
		k.ok(k.s.Log().Flush())
		return k
	}, func(k *desk) { k.s.Checkpoint() })
	costs(t, checkpointActs+1, "Checkpoint beside a base.new", func() *desk {
		k := filled(t)
		k.ok(k.d.Create("base.new"))
		return k
	}, func(k *desk) { k.s.Checkpoint() })
	for n := 1; n <= checkpointActs; n++ {
		k := filled(t)
		old, end := k.s.Based(), k.s.Log().End()
		k.ok(k.d.Arm(n))
		k.refused(fmt.Sprint("Checkpoint that dies in act ", n), api.ErrDead)(k.s.Checkpoint())
		k.is("Doubt", k.s.Doubt(), true)
		k.crash()
		k.isFilled()
		want := old
		if n > 12 {
			want = end
		}
		k.is(fmt.Sprint("Based behind a death in act ", n), k.s.Based(), want)
		k.is("files", k.d.List(), []string{"base", "wal.000001"})
		_, e := k.s.Checkpoint()
		k.ok(e)
	}
	for n := 1; n <= 3; n++ {
		k := filled(t)
		k.ok(k.d.FailSync(n))
		k.refused(fmt.Sprint("Checkpoint whose Sync fails: ", n), api.ErrStoreDoubt)(k.s.Checkpoint())
		k.is("Based in doubt", k.s.Based(), 0)
		k.crash()
		k.isFilled()
	}
}

func TestS13NoRoom(t *testing.T) {
	whole := filled(t)
	_, e := whole.s.Checkpoint()
	whole.ok(e)
	k := filled(t)
	l := bytesOf(t, k.d)
	used := 0
	for _, f := range l {
		used += len(f.Bytes)
	}
	size := len(fileOf(t, whole.d, "base"))
	payload, _, _ := whole.s.Log().Read(whole.s.Based())
	need := max(size, size-len(newBase)+len(framed(payload))) // the new base beside the old one; then the record
	for _, free := range []int{0, 1, size - 1, need - 1, need} {
		k := &desk{t: t, d: loadedWith(t, used+free, l)}
		k.open()
		at, e := k.s.Checkpoint()
		if want := free >= need; (e == api.OK) != want || !want && (at != 0 || e != api.ErrStoreDoubt || !k.s.Doubt()) {
			t.Errorf("Checkpoint with %d bytes free: %d, %d", free, at, e)
		}
		k.crash()
		k.isFilled()
	}
}

// atEnd is a store whose log leaves so many bytes in its first segment: the base lies behind records that it does not need.
func atEnd(t *testing.T, left int) *desk {
	t.Helper()
	log := framed(strings.Repeat("x", 4000)) + framed(strings.Repeat("y", 2000))
	log += framed(strings.Repeat("x", api.SegmentSize-left-len(log)-api.FrameHead))
	b := baseOf(16384-left, checks(3, 2, narrow), []origin{{"a", 1}}, []line{{1, r(1, "a")}})
	k := &desk{t: t, d: loaded(t, []api.File{{Name: "base", Bytes: b.bytes()}, {Name: "wal.000001", Bytes: log}})}
	k.open()
	k.is("End", k.s.Log().End(), 16384-left)
	return k
}

// TestS13Turn: where the record begins a new segment the base's position stands for its own.
func TestS13Turn(t *testing.T) {
	frame := len(framed(encoded(checks(3, 2, narrow))))
	for _, left := range []int{frame + 1, frame, frame - 1, 8, 1, 0} {
		k := atEnd(t, left)
		at, e := k.s.Checkpoint()
		k.ok(e)
		want := 16384 - left
		if left < frame {
			want = 16384
		}
		k.is("its position", at, want)
		k.is("Based", k.s.Based(), 16384-left)
		k.is("at its position", k.at(at), record.Print(checks(3, 2, narrow)))
		k.is("at Based", k.at(k.s.Based()), record.Print(checks(3, 2, narrow)))
		for range 2 {
			k.crash()
			k.is("Based", k.s.Based(), 16384-left)
			k.sees(0, "(1, 'a')")
			k.is("Origin", k.s.Origin("a"), 1)
		}
		x := k.begin()
		k.ok(k.s.Insert(x, "t", r(2)))
		k.commit(x)
		k.crash()
		k.sees(0, "(1, 'a') (2, null)")
		n, e := k.s.Trim(lastPosition)
		k.ok(e)
		k.is("Trim", n, 0+b2i(left == 0)) // with nothing left the base lies in the second segment
		k.crash()
		k.sees(0, "(1, 'a') (2, null)")
	}
}

func b2i(b bool) int {
	if b {
		return 1
	}
	return 0
}

// TestS13TurnDies: in the midst of a turn of segments, at each act; the base is the new one from the Rename on.
func TestS13TurnDies(t *testing.T) {
	for n := 1; n <= 12; n++ { // base.new, four frames, a Sync, a Rename; noughts, a Sync, a Create, the record; then a Sync
		for _, keep := range []bool{false, true} {
			k := atEnd(t, 8)
			k.ok(k.d.Arm(n))
			_, e := k.s.Checkpoint()
			k.is("Checkpoint", e, api.ErrDead)
			if keep {
				k.crashKeeping()
			} else {
				k.crash()
			}
			k.sees(0, "(1, 'a')")
			x := k.begin()
			k.is("Begin", x, 3)
			k.ok(k.s.Insert(x, "t", r(2)))
			k.commit(x)
			k.crash()
			k.sees(0, "(1, 'a') (2, null)")
		}
	}
}

func TestS14Trim(t *testing.T) {
	k := newDesk(t)
	for n := range 300 {
		x := k.begin()
		k.ok(k.s.Insert(x, "t", r(n, strings.Repeat("x", 100))))
		k.commit(x)
	}
	rows := k.rows(0, "t")
	segments := func() int { return len(k.d.List()) - 1 }
	had := segments()
	if had < 4 {
		t.Fatalf("only %d segments", had)
	}
	// Nothing below the base, nothing above it.
	for _, lsn := range []int{-1, 0, 8192, 16384, lastPosition} {
		n, e := k.s.Trim(lsn)
		k.is(fmt.Sprintf("Trim(%d) while all is needed", lsn), fmt.Sprint(n, e), "0 0")
	}
	_, e := k.s.Checkpoint()
	k.ok(e)
	for _, x := range []struct{ lsn, want int }{{-5, 0}, {8192, 0}, {16383, 0}, {16384, 1}, {16384, 0}, {24577, 1}, {lastPosition, had - 3}, {lastPosition, 0}} {
		n, e := k.s.Trim(x.lsn)
		k.is(fmt.Sprintf("Trim(%d)", x.lsn), fmt.Sprint(n, e), fmt.Sprint(x.want, 0))
	}
	k.is("segments", segments(), 1)
	k.is("First", k.s.Log().First(), had*8192)
	k.crash()
	k.is("rows", k.rows(0, "t"), rows)
	k.is("Trim", fmt.Sprint(k.s.Trim(1000000)), "0 0")
}

// TestS14TrimDies: what was removed is gone, and the store is in doubt.
func TestS14TrimDies(t *testing.T) {
	made := func() *desk {
		k := newDesk(t)
		for n := range 300 {
			x := k.begin()
			k.ok(k.s.Insert(x, "t", r(n, strings.Repeat("x", 100))))
			k.commit(x)
		}
		_, e := k.s.Checkpoint()
		k.ok(e)
		return k
	}
	k := made()
	had, rows := len(k.d.List()), k.rows(0, "t")
	for n := 1; n < had-1; n++ {
		k := made()
		k.ok(k.d.Arm(n))
		k.refused("Trim", api.ErrDead)(k.s.Trim(lastPosition))
		k.is("Doubt", k.s.Doubt(), true)
		k.refused("Trim again", api.ErrDead)(k.s.Trim(0))
		k.ok(k.d.Crash(nil))
		k.refused("Trim of a store in doubt", api.ErrStoreDoubt)(k.s.Trim(0))
		k.open()
		k.is("files", len(k.d.List()), had-n+1)
		k.is("rows", k.rows(0, "t"), rows)
	}
	costs(t, had-2, "Trim", made, func(k *desk) { k.s.Trim(lastPosition) })
	costs(t, 0, "Trim of nothing", made, func(k *desk) { k.s.Trim(8192) })
}
