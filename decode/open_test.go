package decode_test

import (
	"fmt"
	"math"
	"slices"
	"strings"
	"testing"

	"confluence/api"
	"confluence/code"
	"confluence/decode"
	"confluence/files"
	"confluence/wal"
)

func TestD1Limits(t *testing.T) {
	b := laid(t, checkpoint(one()), begin(1), insert(1, 1, 5), commit(1))
	for _, limit := range []int{-1, -2, math.MinInt} {
		b.refuses(slotAt(0, first), limit, api.ErrArg)
	}
	for _, limit := range append([]int{1000000}, limits...) {
		x := b.open(0, first, limit)
		counts(t, x, 0, 0, 0, 0)
		steps(t, x, "", "", "begin 1, t 1.1, +1(5), commit 1", "!200")
	}
}

func TestD1Publications(t *testing.T) {
	b := laid(t, checkpoint())
	nine := api.Publication{Name: "p"}
	for i := range 9 {
		nine.Tables = append(nine.Tables, api.Published{Table: fmt.Sprint("t", i), Kinds: 1})
	}
	for _, p := range []api.Publication{
		{}, {Name: "p"}, nine,
		{Name: "P", Tables: []api.Published{{Table: "t", Kinds: 1}}},
		{Name: "p", Tables: []api.Published{{Table: "T", Kinds: 1}}},
		{Name: "p", Tables: []api.Published{{Table: "t"}}},
		{Name: "p", Tables: []api.Published{{Table: "t", Kinds: 16}}},
		{Name: "p", Tables: []api.Published{{Table: "t", Kinds: 1}, {Table: "t", Kinds: 1}}},
		{Name: "p", Tables: []api.Published{{Table: "t", Kinds: 1, Columns: []string{"a", "a"}}}},
		{Name: "p", Tables: []api.Published{{Table: "t", Kinds: 1, Filter: "id >"}}},
	} {
		b.refuses(api.Slot{Name: "a", Publication: p, Restart: first}, 0, api.ErrPublishForm)
	}
}

func TestD1Names(t *testing.T) {
	b := laid(t, checkpoint())
	for _, name := range []string{"", "A", "1", "_a", "a b", "a.b", "a-b", "ab\x00", "abcdefghijklmnopq", "ä"} {
		x := slotAt(0, first)
		x.Name = name
		b.refuses(x, 0, api.ErrArg)
	}
	for _, name := range []string{"a", "z", "a1_", "abcdefghijklmnop"} {
		x := slotAt(0, first)
		x.Name = name
		b.opens(x, 0)
	}
}

// TestD1SweepsFiles: what was left of the slot's name is taken away, and nothing else; the log's files are not touched.
func TestD1SweepsFiles(t *testing.T) {
	b := laid(t, checkpoint())
	log := "wal.000001"
	for _, name := range []string{"spill.a.1.0", "spill.a.7.3", "spill.a.x", "spill.ab.1.0", "spill.b.1.0", "slots"} {
		is(t, "Create", b.d.Create(name), api.OK)
	}
	costs(t, b.d, 3, "Open", func() { b.open(0, first, 0) })
	if got := b.d.List(); !slices.Equal(got, []string{"slots", "spill.ab.1.0", "spill.b.1.0", log}) {
		t.Errorf("the files are %q", got)
	}
	costs(t, b.d, 0, "Open again", func() { b.open(0, first, 0) })
}

// TestD1SweepDies: the disk dies in each act of it.
func TestD1SweepDies(t *testing.T) {
	for act := 1; act <= 3; act++ {
		b := laid(t, checkpoint())
		for k := range 3 {
			is(t, "Create", b.d.Create(fmt.Sprint("spill.a.1.", k)), api.OK)
		}
		is(t, "Arm", b.d.Arm(act), api.OK)
		b.refuses(slotAt(0, first), 0, api.ErrDead)
		if n := len(spilled(b.d)); n != 4-act {
			t.Errorf("act %d: %d files are left", act, n)
		}
		b.refuses(slotAt(0, first), 0, api.ErrDead)
		revive(t, b.d)
		b.open(0, first, 0)
		b.clean()
	}
}

func TestD1DeadDisk(t *testing.T) {
	b := laid(t, checkpoint())
	kill(t, b.d)
	for _, restart := range []int{first, first + 1, 0, b.w.End(), b.w.End() + 1, math.MaxInt, math.MinInt} {
		b.refuses(slotAt(0, restart), 0, api.ErrDead)
	}
	revive(t, b.d)
	b.open(0, first, 0)
}

// TestD1DeadLog: the log's disk is dead, and the other one lives: ErrDead where Read says so; what is below the log, at Flushed and above is asked of no disk.
func TestD1DeadLog(t *testing.T) {
	b := laid(t, checkpoint(), begin(1))
	at := b.put(checkpoint())[0]
	other, _ := files.New(1000)
	kill(t, b.d)
	for restart, want := range map[int]api.Errno{
		first: api.ErrDead, first + 1: api.ErrDead, at - 1: api.ErrDead,
		first - 1: api.ErrDecodeLog, 0: api.ErrDecodeLog, math.MinInt: api.ErrDecodeLog,
		at: api.ErrDecodeLog, at + 1: api.ErrDecodeLog, b.w.End(): api.ErrDecodeLog, math.MaxInt: api.ErrDecodeLog,
	} {
		if x, e := decode.Open(b.w, other, slotAt(0, restart), 0); x != nil || e != want {
			t.Errorf("Open at %d: %v, %d, want %d", restart, x, e, want)
		}
	}
}

// TestD1DeadOther: the log's disk lives, and the other one is dead.
func TestD1DeadOther(t *testing.T) {
	b := laid(t, checkpoint(one()), begin(1), insert(1, 1, 5), insert(1, 1, 6), commit(1))
	other, _ := files.New(1000)
	kill(t, other)
	if x, e := decode.Open(b.w, other, slotAt(0, first), 0); x != nil || e != api.ErrDead {
		t.Errorf("Open: %v, %d", x, e)
	}
	revive(t, other)
	x, e := decode.Open(b.w, other, slotAt(0, first), 40)
	is(t, "Open", e, api.OK)
	nothing(t, x, 3)
	if l := other.List(); !slices.Equal(l, []string{"spill.a.1.0"}) {
		t.Errorf("the files of the other disk are %q", l)
	}
	b.clean()
	steps(t, x, "begin 1, t 1.1, +1(5), +1(6), commit 1")
	if l := other.List(); len(l) > 0 {
		t.Errorf("the files of the other disk are %q", l)
	}
}

// TestD1EachPlace: of a log with records of several kinds each place, and those around it: only a checkpoint's position that lasts will do.
func TestD1EachPlace(t *testing.T) {
	b := laid(t, checkpoint(one()), begin(1), checkpoint(), prepare(1, "w"), create(2, table(2, "u", 3)), checkpoint(one(), table(2, "u", 3)))
	b.raw("no record")
	b.flush()
	at := map[int]int{}
	for lsn, s := range b.w.Scan(0) {
		if s[0] == api.RecCheckpoint {
			_, next, _ := b.w.Read(lsn)
			at[lsn] = next
		}
	}
	if len(at) != 3 {
		t.Fatalf("%d checkpoints", len(at))
	}
	b.put(checkpoint())
	for restart := -10; restart < b.w.End()+100; restart++ {
		if restart == 10 {
			restart = first - 10
		}
		next, there := at[restart]
		if !there {
			b.refuses(slotAt(0, restart), 0, api.ErrDecodeLog)
			continue
		}
		x := b.open(0, restart, 0)
		if x.Position() != next || x.Restart(math.MaxInt) != restart || x.Restart(0) != restart {
			t.Errorf("Open at %d: Position %d, Restart %d, want %d", restart, x.Position(), x.Restart(0), next)
		}
	}
	for _, restart := range []int{math.MinInt, math.MaxInt, math.MaxInt - 7, 1 << 40} {
		b.refuses(slotAt(0, restart), 0, api.ErrDecodeLog)
	}
}

// TestD1Undecoded: bytes that begin as a checkpoint's and are none: cut, with one more, with tables that a history would refuse.
func TestD1Undecoded(t *testing.T) {
	right := payload(t, checkpoint(one(), table(2, "u", 2)))
	turned := payload(t, checkpoint(table(2, "u", 2)))
	turned = turned[:5] + "\x02" + turned[6:] + payload(t, checkpoint(one()))[6:]
	twice := payload(t, checkpoint(one()))
	twice = twice[:5] + "\x02" + twice[6:] + twice[6:]
	for _, s := range []string{right[:len(right)-1], right + "\x00", right[:1], right[:5], turned, twice, "\x10" + right[1:], "\x00" + right[1:]} {
		b := begun(t)
		b.raw(s)
		b.flush()
		b.refuses(slotAt(0, first), 0, api.ErrDecodeLog)
	}
	b := begun(t)
	b.raw(right)
	b.flush()
	b.open(0, first, 0)
}

// TestD1StandsFor: a place behind a full segment's last record stands for the checkpoint that begins the next one: it is that one's position that counts.
func TestD1StandsFor(t *testing.T) {
	for _, room := range []int{0, 1, 5, 9} {
		b := laid(t, checkpoint())
		b.fill(room)
		behind := b.w.End()
		at := b.lay(checkpoint(one()), begin(1), insert(1, 1, 5), commit(1))
		if at[0] != 2*first {
			t.Fatalf("the checkpoint stands at %d", at[0])
		}
		for _, restart := range []int{behind, at[0]} {
			x := b.open(0, restart, 0)
			if x.Position() != at[1] || x.Restart(math.MaxInt) != at[0] || x.Restart(0) != at[0] || x.Restart(behind) != at[0] {
				t.Errorf("room %d: Position %d, Restart %d", room, x.Position(), x.Restart(math.MaxInt))
			}
			steps(t, x, "", "", "begin 1, t 1.1, +1(5), commit 1", "!200")
		}
		for restart := behind + 1; restart < at[0]; restart++ {
			b.refuses(slotAt(0, restart), 0, api.ErrDecodeLog)
		}
	}
}

// TestD1StandsForUnflushed: the same, while that one does not last yet.
func TestD1StandsForUnflushed(t *testing.T) {
	b := laid(t, checkpoint())
	b.fill(9)
	behind := b.w.End()
	b.put(checkpoint(one()))
	if b.w.Flushed() != 2*first {
		t.Fatalf("Flushed: %d", b.w.Flushed())
	}
	for _, restart := range []int{behind, 2 * first} {
		b.refuses(slotAt(0, restart), 0, api.ErrDecodeLog)
	}
	b.flush()
	for _, restart := range []int{behind, 2 * first} {
		b.open(0, restart, 0)
	}
}

// TestD1StandsForFar: segments without a record between.
func TestD1StandsForFar(t *testing.T) {
	head, _ := code.Frame(payload(t, begin(1)))
	body, _ := code.Frame(payload(t, checkpoint(one())))
	noughts := func(s string) string { return s + strings.Repeat("\x00", api.SegmentSize-len(s)) }
	d, _ := files.Load(100000, []api.File{{Name: "wal.000005", Bytes: noughts(head)}, {Name: "wal.000006", Bytes: noughts("")}, {Name: "wal.000007", Bytes: noughts("")}, {Name: "wal.000008", Bytes: body}})
	b := reopened(t, d)
	for _, restart := range []int{5*first + len(head), 6 * first, 7 * first, 8 * first} {
		x := b.open(0, restart, 0)
		if x.Restart(0) != 8*first || x.Position() != 8*first+len(body) {
			t.Errorf("Open at %d: Restart %d, Position %d", restart, x.Restart(0), x.Position())
		}
	}
	for _, restart := range []int{5 * first, 5*first - 1, 5*first + len(head) + 1, 6*first + 1, 8*first + 1, 9 * first} {
		b.refuses(slotAt(0, restart), 0, api.ErrDecodeLog)
	}
}

// TestD1EndsSegment: behind the record with which it begins another segment begins: that is where it reads next, if it was there already.
func TestD1EndsSegment(t *testing.T) {
	for _, room := range []int{0, 1, 8} {
		b := begun(t)
		b.fill(room + size(t, checkpoint(one())))
		from := b.lay(checkpoint(one()))[0]
		x := b.open(0, from, 0)
		b.lay(begin(1), insert(1, 1, 5), commit(1))
		y := b.open(0, from, 0)
		if x.Position() != 2*first-room || y.Position() != 2*first {
			t.Errorf("room %d: Position %d, %d", room, x.Position(), y.Position())
		}
		steps(t, x, "", "", "begin 1, t 1.1, +1(5), commit 1", "!200")
		steps(t, y, "", "", "begin 1, t 1.1, +1(5), commit 1", "!200")
	}
}

// TestD1Trimmed: a place that was trimmed is none.
func TestD1Trimmed(t *testing.T) {
	b := laid(t, checkpoint())
	b.fill(0)
	at := b.lay(checkpoint())[0]
	if n, e := b.w.Trim(at); n != 1 || e != api.OK {
		t.Fatalf("Trim: %d, %d", n, e)
	}
	b.refuses(slotAt(0, first), 0, api.ErrDecodeLog)
	b.open(0, at, 0)
}

// TestD1FirstNamed: of several errors the one that is named first.
func TestD1FirstNamed(t *testing.T) {
	b := laid(t, begin(1))
	wrong := api.Slot{Name: "A", Restart: 0}
	b.refuses(wrong, -1, api.ErrArg)
	b.refuses(wrong, 0, api.ErrPublishForm)
	wrong.Publication = wanted()
	b.refuses(wrong, 0, api.ErrArg)
	wrong.Name = "a"
	b.refuses(wrong, 0, api.ErrDecodeLog)
	kill(t, b.d)
	b.refuses(wrong, 0, api.ErrDead)
	b.refuses(wrong, -1, api.ErrArg)
	b.refuses(api.Slot{Name: "a"}, 0, api.ErrPublishForm)
	wrong.Name = "A"
	b.refuses(wrong, 0, api.ErrArg)
}

// TestD1EmptyLog: nothing stands in it.
func TestD1EmptyLog(t *testing.T) {
	b := begun(t)
	for _, restart := range []int{0, first, first + 1, 2 * first} {
		b.refuses(slotAt(0, restart), 0, api.ErrDecodeLog)
	}
}

// TestD1Tables: the tables of the record with which it begins are known from there on, and no others.
func TestD1Tables(t *testing.T) {
	b := laid(t, checkpoint(one(), table(3, "u", 2)), begin(1), insert(1, 1, 5), insert(1, 3, 6, 7), commit(1))
	steps(t, b.open(0, first, 0), "", "", "", "begin 1, t 1.1, +1(5), u 3.2, +3(6 7), commit 1")
	b = laid(t, checkpoint(one()), drop(1, 1), checkpoint())
	at := b.lay(begin(2), insert(2, 1, 5), commit(2))
	steps(t, b.open(0, at[0]-size(t, checkpoint()), 0), "", "", "!201")
	b = laid(t, checkpoint())
	at = b.lay(checkpoint(one()), begin(2), insert(2, 1, 5), commit(2))
	// A checkpoint behind the first one tells nothing of tables.
	steps(t, b.open(0, first, 0), "", "", "", "!201")
	steps(t, b.open(0, at[0], 0), "", "", "begin 2, t 1.1, +1(5), commit 2")
}

// TestD1ConfirmedAny: whatever the slot says it has confirmed.
func TestD1ConfirmedAny(t *testing.T) {
	b := laid(t, checkpoint(one()), begin(1), insert(1, 1, 5), commit(1), empty(2, 1))
	for _, confirmed := range []int{math.MinInt, -1, 0, 1, first} {
		steps(t, b.open(confirmed, first, 0), "", "", "begin 1, t 1.1, +1(5), commit 1", "begin 2, t 1.1, empty 1, commit 2", "!200")
	}
	for _, confirmed := range []int{b.w.End(), b.w.End() + 1, math.MaxInt} {
		steps(t, b.open(confirmed, first, 0), "", "", "", "", "!200")
	}
}

// TestD1LogInDoubt: a log whose Flush has failed may still be read, up to where it lasts.
func TestD1LogInDoubt(t *testing.T) {
	b := laid(t, checkpoint(one()), begin(1))
	b.put(insert(1, 1, 5))
	is(t, "FailSync", b.d.FailSync(1), api.OK)
	is(t, "Flush", b.w.Flush(), api.ErrWalDoubt)
	x := b.open(0, first, 0)
	steps(t, x, "", "!200", "!200")
	b.w, _ = wal.Open(b.d)
	steps(t, b.open(0, first, 0), "", "", "!200")
}
