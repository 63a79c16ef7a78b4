package decode_test

import (
	"fmt"
	"math"
	"slices"
	"testing"

	"confluence/api"
	"confluence/decode"
)

// standing is all that a decoder says of itself.
type standing struct {
	position int
	restart  [4]int
	counts   api.Counts
}

func standingOf(b *bench, x *decode.Decoder) standing {
	s := standing{position: x.Position(), counts: x.Counts()}
	for i, n := range []int{0, first, b.w.End() / 2, math.MaxInt} {
		s.restart[i] = x.Restart(n)
	}
	return s
}

// stays holds that each Step, and each Ahead, answers an error from now on, whatever comes, and that nothing changes.
func stays(b *bench, x *decode.Decoder, want api.Errno) {
	b.t.Helper()
	was := standingOf(b, x)
	for range 2 {
		steps(b.t, x, fmt.Sprint("!", int(want)))
		for _, n := range []int{1, 2, 100, math.MaxInt} {
			if l, e := x.Ahead(n); len(l) > 0 || e != want {
				b.t.Errorf("Ahead(%d): %s, %d, want %d", n, words(l), e, want)
			}
		}
		for _, n := range []int{0, -1, math.MinInt} {
			if l, e := x.Ahead(n); len(l) > 0 || e != api.ErrArg {
				b.t.Errorf("Ahead(%d): %s, %d", n, words(l), e)
			}
		}
		if got := standingOf(b, x); got != was {
			b.t.Errorf("what is said is %+v, was %+v", got, was)
		}
		if !b.d.Dead() {
			b.lay(begin(99), abort(99), checkpoint())
		}
	}
}

// wrongs are records of which the last one cannot be taken, behind a checkpoint with the table 1 of one column, and a transaction 1 that is open; those ahead of the last one are.
var wrongs = []struct {
	what string
	recs []api.Rec
}{
	{"a transaction that is open", []api.Rec{begin(1)}},
	{"a part of that number", []api.Rec{part(2, 1), begin(2)}},
	{"a part that was taken back", []api.Rec{part(2, 1), back(2), begin(2)}},
	{"a part of nothing", []api.Rec{part(8, 7)}},
	{"a part of one that is over", []api.Rec{commit(1), part(8, 1)}},
	{"a part twice", []api.Rec{part(2, 1), part(2, 1)}},
	{"a part of one that was taken back", []api.Rec{part(2, 1), back(2), part(3, 2)}},
	{"a change of nobody", []api.Rec{insert(2, 1, 5)}},
	{"an update of nobody", []api.Rec{update(2, 1, row(5), row(5))}},
	{"a delete of nobody", []api.Rec{remove(2, 1, 5)}},
	{"a change of a part that was taken back", []api.Rec{part(2, 1), back(2), insert(2, 1, 5)}},
	{"a change behind the commit", []api.Rec{commit(1), insert(1, 1, 5)}},
	{"a change behind the abort", []api.Rec{abort(1), insert(1, 1, 5)}},
	{"a transaction taken back", []api.Rec{back(1)}},
	{"nothing taken back", []api.Rec{back(2)}},
	{"a part taken back twice", []api.Rec{part(2, 1), back(2), back(2)}},
	{"a commit of nobody", []api.Rec{commit(5)}},
	{"a commit of a part", []api.Rec{part(2, 1), commit(2)}},
	{"a commit twice", []api.Rec{commit(1), commit(1)}},
	{"a commit behind an abort", []api.Rec{abort(1), commit(1)}},
	{"an abort of nobody", []api.Rec{abort(5)}},
	{"an abort of a part", []api.Rec{part(2, 1), abort(2)}},
	{"an abort behind a commit", []api.Rec{commit(1), abort(1)}},
	{"a drop of nothing", []api.Rec{drop(9, 7)}},
	{"a drop twice", []api.Rec{drop(9, 1), drop(9, 1)}},
	{"nothing emptied", []api.Rec{empty(9, 7)}},
	{"what was dropped emptied", []api.Rec{drop(9, 1), empty(9, 1)}},
	{"a change of no table", []api.Rec{insert(1, 7, 5), commit(1)}},
	{"a change ahead of its table", []api.Rec{insert(1, 7, 5), create(9, table(7, "u", 1)), commit(1)}},
	{"a change behind its table", []api.Rec{drop(9, 1), insert(1, 1, 5), commit(1)}},
	{"a change between two tables", []api.Rec{drop(9, 1), insert(1, 1, 5), create(9, one()), commit(1)}},
	{"a row that is too wide", []api.Rec{insert(1, 1, 1, 2), commit(1)}},
	{"a row ahead of its width", []api.Rec{insert(1, 1, 1, 2), widen(9, table(1, "t", 2)), commit(1)}},
	{"a row that is too narrow", []api.Rec{widen(9, table(1, "t", 2)), insert(1, 1, 1), commit(1)}},
	{"a row of another kind", []api.Rec{{Kind: api.RecInsert, Xid: 1, Table: 1, New: api.Row{{Kind: api.Text}}}, commit(1)}},
	{"a null key", []api.Rec{{Kind: api.RecDelete, Xid: 1, Table: 1, Old: api.Row{{}}}, commit(1)}},
	{"another key", []api.Rec{update(1, 1, row(1), row(2)), commit(1)}},
	{"an old row that is too wide", []api.Rec{update(1, 1, row(1, 2), row(1)), commit(1)}},
	{"right ones and a wrong one", []api.Rec{insert(1, 1, 1), insert(1, 1, 2), insert(1, 7, 5), insert(1, 1, 3), commit(1)}},
	{"a wrong one of a part", []api.Rec{part(2, 1), insert(2, 7, 5), release(2), commit(1)}},
	{"a wrong one of a table that is not told", []api.Rec{create(9, table(5, "other", 1)), insert(1, 5, 1, 2), commit(1)}},
}

// TestD2Refused: each is ErrDecodeLog, at the record that cannot be taken, and stays so; the place stays, and no message comes out.
func TestD2Refused(t *testing.T) {
	for _, w := range wrongs {
		for _, limit := range limits {
			b := laid(t, checkpoint(one()), begin(1))
			at := b.lay(w.recs...)
			x := b.open(0, first, limit)
			nothing(t, x, len(w.recs))
			steps(t, x, "!201")
			if want := at[len(at)-1]; x.Position() != want {
				t.Errorf("%s: Position %d, want %d", w.what, x.Position(), want)
			}
			stays(b, x, api.ErrDecodeLog)
			// By Ahead all that is told ahead of it comes out first.
			b = laid(t, checkpoint(one()), begin(50), insert(50, 1, 5), commit(50), begin(1))
			at = b.lay(w.recs...)
			y := b.open(0, first, limit)
			if l, e := y.Ahead(1000); words(l) != "begin 50, t 1.1, +1(5), commit 50" || e != api.OK || y.Position() != at[len(at)-1] {
				t.Errorf("%s: Ahead: %s, %d", w.what, words(l), e)
			}
			stays(b, y, api.ErrDecodeLog)
		}
	}
}

// TestD2NoRecord: bytes that are no record.
func TestD2NoRecord(t *testing.T) {
	right := payload(t, insert(1, 1, 5))
	for _, s := range []string{"x", "no record", "\x00", "\x10\x01", right[:len(right)-1], right + "\x00", "\x01\x80\x00", "\x01\x81\x00", "\x02\x03\x05"} {
		b := laid(t, checkpoint(one()), begin(1))
		at := b.raw(s)
		x := b.open(0, first, 0)
		steps(t, x, "", "!200")
		b.flush()
		steps(t, x, "!201")
		if x.Position() != at {
			t.Errorf("Position: %d, want %d", x.Position(), at)
		}
		stays(b, x, api.ErrDecodeLog)
	}
}

// TestD2NotAsked: a change of which nothing is told may have any table and any row: of one that is aborted, that is taken back, that is still open.
func TestD2NotAsked(t *testing.T) {
	wrong := func(xid int) []api.Rec {
		return []api.Rec{insert(xid, 7, 5), insert(xid, 1, 1, 2), update(xid, 1, row(1), row(2)), remove(xid, 9, 1)}
	}
	b := laid(t, checkpoint(one()), begin(1), part(2, 1))
	b.lay(wrong(2)...)
	b.lay(back(2), begin(3))
	b.lay(wrong(3)...)
	b.lay(part(4, 1), part(5, 4))
	b.lay(wrong(5)...)
	b.lay(release(5), insert(4, 1, 8), insert(1, 1, 9), back(4), abort(3), begin(6))
	b.lay(wrong(6)...)
	b.lay(commit(1))
	for _, limit := range limits {
		if got := words(whole(t, b.open(0, first, limit))); got != "begin 1, t 1.1, +1(9), commit 1" {
			t.Errorf("limit %d: told %s", limit, got)
		}
	}
}

// TestD2ErrorLeaves: how the buffer is left by an error: up to the call that was refused, or up to the change that could not be told, which is taken off.
func TestD2ErrorLeaves(t *testing.T) {
	// A change of one number counts 32, and 3 for its row.
	const one1 = 35
	b := laid(t, checkpoint(one()), begin(1), begin(2), insert(1, 1, 1), insert(2, 1, 2), insert(1, 1, 3), insert(1, 7, 4), insert(1, 1, 5), insert(1, 1, 6), commit(1))
	x := b.open(0, first, never)
	nothing(t, x, 8)
	counts(t, x, 6*one1, 6, 0, 2)
	steps(t, x, "!201")
	counts(t, x, 3*one1, 3, 0, 2)
	stays(b, x, api.ErrDecodeLog)
	// Out of files: one is held ahead.
	x = b.open(0, first, 2*one1)
	nothing(t, x, 8)
	spills := x.Counts().Spilled
	counts(t, x, 2*one1, 2, spills, 2)
	steps(t, x, "!201")
	if got := x.Counts(); got.Open != 2 || got.Spilled != spills {
		t.Errorf("Counts: %+v", got)
	}
	if len(spilled(b.d)) == 0 {
		t.Error("the stream has not ended, but its files are gone")
	}
	stays(b, x, api.ErrDecodeLog)
	// A new decoder takes them away.
	b.open(0, first, 0)
	b.clean()
	// Refused by layer 16: nothing is changed by that one.
	b = laid(t, checkpoint(one()), begin(1), insert(1, 1, 1), part(2, 1), insert(2, 1, 1), commit(2))
	x = b.open(0, first, never)
	nothing(t, x, 4)
	steps(t, x, "!201")
	counts(t, x, 2*one1, 2, 0, 1)
	stays(b, x, api.ErrDecodeLog)
}

// TestD2LastError: the last change of a transaction is wrong, or the only one: the stream has not ended.
func TestD2LastError(t *testing.T) {
	for n := range 4 {
		b := laid(t, checkpoint(one()), begin(1))
		for i := range n {
			b.lay(insert(1, 1, i))
		}
		b.lay(insert(1, 7, 9), commit(1))
		for _, limit := range limits {
			x := b.open(0, first, limit)
			nothing(t, x, n+2)
			steps(t, x, "!201")
			if got := x.Counts(); got.Open != 1 || got.Changes != 0 || got.Bytes != 0 {
				t.Errorf("Counts: %+v", got)
			}
		}
	}
}

// TestD2RestartBehindError: Restart says what it said, also of checkpoints that come behind the error.
func TestD2RestartBehindError(t *testing.T) {
	b := laid(t, checkpoint())
	at := b.lay(checkpoint(), begin(1), commit(1), checkpoint(), commit(1), checkpoint())
	x := b.open(0, first, 0)
	nothing(t, x, 4)
	steps(t, x, "!201")
	for confirmed, want := range map[int]int{0: first, at[0] - 1: first, at[0]: at[0], at[3] - 1: at[0], at[3]: at[3], at[5]: at[3], math.MaxInt: at[3]} {
		if got := x.Restart(confirmed); got != want {
			t.Errorf("Restart(%d): %d, want %d", confirmed, got, want)
		}
	}
	stays(b, x, api.ErrDecodeLog)
}

// TestD2DeadAtEnd: at the end a dead disk is not asked.
func TestD2DeadAtEnd(t *testing.T) {
	b := laid(t, checkpoint(), begin(1))
	x := b.open(0, first, 0)
	nothing(t, x, 1)
	kill(t, b.d)
	steps(t, x, "!200", "!200")
	if l, e := x.Ahead(3); len(l) > 0 || e != api.ErrDecodeEnd {
		t.Errorf("Ahead: %s, %d", words(l), e)
	}
	revive(t, b.d)
	b.lay(commit(1))
	steps(t, x, "", "!200")
}

// TestD2Dead: a dead disk is answered for ever, also when it lives again.
func TestD2Dead(t *testing.T) {
	b := laid(t, checkpoint(one()), begin(1), insert(1, 1, 5), commit(1))
	for n := range 3 {
		x := b.open(0, first, 0)
		nothing(t, x, min(n, 2))
		was := standingOf(b, x)
		kill(t, b.d)
		if n == 1 {
			if l, e := x.Ahead(5); len(l) > 0 || e != api.ErrDead {
				t.Errorf("Ahead: %s, %d", words(l), e)
			}
		}
		steps(t, x, "!2", "!2")
		if got := standingOf(b, x); got != was {
			t.Errorf("what is said is %+v, was %+v", got, was)
		}
		revive(t, b.d)
		stays(b, x, api.ErrDead)
	}
}

// TestD2TrimmedPlace: somebody trimmed the log where the decoder stands, which nobody should: it ends there.
func TestD2TrimmedPlace(t *testing.T) {
	b := laid(t, checkpoint(), begin(1))
	x := b.open(0, first, 0)
	b.fill(0)
	b.lay(begin(2))
	if n, e := b.w.Trim(b.w.End()); n != 1 || e != api.OK {
		t.Fatalf("Trim: %d, %d", n, e)
	}
	steps(t, x, "!201")
	stays(b, x, api.ErrDecodeLog)
}

// TestD2CrashBehind: a crash of the log's disk, behind which the old log is no use: whatever a decoder of it answers, it ends.
func TestD2CrashBehind(t *testing.T) {
	b := laid(t, checkpoint(one()), begin(1))
	b.put(insert(1, 1, 5), commit(1))
	x := b.open(0, first, 0)
	is(t, "Crash", b.d.Crash(nil), api.OK)
	for range 5 {
		x.Step()
		x.Ahead(3)
	}
	is(t, "Remove", b.d.Remove("wal.000001"), api.OK)
	y := b.w
	for range 5 {
		x.Step()
		x.Ahead(3)
		decode.Open(y, b.d, slotAt(0, first), 0)
	}
}

// TestD2SpillSpoilt: somebody cuts, changes or removes the decoder's files: what they answer is told as it is.
func TestD2SpillSpoilt(t *testing.T) {
	recs := []api.Rec{checkpoint(one()), begin(1), insert(1, 1, 1), insert(1, 1, 2), insert(1, 1, 3), insert(1, 1, 4)}
	for _, c := range []struct {
		what string
		do   func(b *bench, file string)
		want api.Errno
	}{
		{"removed", func(b *bench, file string) { b.d.Remove(file) }, api.ErrSpillNone},
		{"cut", func(b *bench, file string) { b.d.Truncate(file, 5) }, api.ErrSpillForm},
		{"other bytes", func(b *bench, file string) { b.d.Truncate(file, 0); b.d.Append(file, "no change") }, api.ErrSpillForm},
	} {
		b := laid(t, recs...)
		b.lay(commit(1))
		for k := range 3 {
			x := b.open(0, first, 0)
			nothing(t, x, 5)
			file := fmt.Sprint("spill.a.1.", k)
			if !slices.Contains(spilled(b.d), file) {
				t.Fatalf("the files are %q", spilled(b.d))
			}
			c.do(b, file)
			at := x.Position()
			steps(t, x, fmt.Sprint("!", int(c.want)))
			if x.Position() != at || x.Counts().Open != 1 {
				t.Errorf("%s: Position %d, was %d; Counts: %+v", c.what, x.Position(), at, x.Counts())
			}
			stays(b, x, c.want)
		}
		// In the midst of the stream, too: two changes of one file, the second of which cannot be read.
		b = laid(t, recs...)
		b.lay(commit(1))
		x := b.open(0, first, 70)
		nothing(t, x, 5)
		n, _ := b.d.Size("spill.a.1.0")
		b.d.Truncate("spill.a.1.0", n-1)
		steps(t, x, fmt.Sprint("!", int(api.ErrSpillForm)))
		stays(b, x, api.ErrSpillForm)
		// An abort needs them no more, be it one of the log, or of what is confirmed.
		for _, last := range []api.Rec{abort(1), commit(1)} {
			b = laid(t, recs...)
			b.lay(last)
			x = b.open(b.w.End(), first, 0)
			nothing(t, x, 5)
			c.do(b, "spill.a.1.1")
			steps(t, x, "", "!200")
			b.clean()
		}
	}
}
