package decode_test

import (
	"fmt"
	"math"
	"slices"
	"strings"
	"testing"

	"confluence/api"
	"confluence/decode"
	"confluence/files"
	"confluence/publish"
	"confluence/record"
	"confluence/wal"
)

// never is a limit that is never reached.
const never = math.MaxInt

// limits are those by which the same must be told.
var limits = []int{0, 1, 40, 100, 500, 3000, never}

// first is where a log begins.
const first = api.SegmentSize

// bench is a log on a disk.
type bench struct {
	t *testing.T
	d *files.Disk
	w *wal.Log
}

// begun is an empty log on a new disk.
func begun(t *testing.T) *bench {
	t.Helper()
	d, e := files.New(10000000)
	if d == nil || e != api.OK {
		t.Fatalf("files.New: %d", e)
	}
	is(t, "wal.Create", wal.Create(d), api.OK)
	return reopened(t, d)
}

// reopened is the log that a disk has.
func reopened(t *testing.T, d *files.Disk) *bench {
	t.Helper()
	w, e := wal.Open(d)
	if w == nil || e != api.OK {
		t.Fatalf("wal.Open: %d", e)
	}
	return &bench{t, d, w}
}

// laid is a log with these records, which last.
func laid(t *testing.T, l ...api.Rec) *bench {
	t.Helper()
	b := begun(t)
	b.lay(l...)
	return b
}

func is(t *testing.T, what string, got, want api.Errno) {
	t.Helper()
	if got != want {
		t.Errorf("%s: %d, want %d", what, got, want)
	}
}

// payload is a record as bytes.
func payload(t *testing.T, r api.Rec) string {
	t.Helper()
	s, e := record.Encode(r)
	if e != api.OK {
		t.Fatalf("record.Encode(%+v): %d", r, e)
	}
	return s
}

// size is how many bytes a record's frame has.
func size(t *testing.T, r api.Rec) int {
	t.Helper()
	return api.FrameHead + len(payload(t, r))
}

// put appends records, which do not last yet; their positions.
func (b *bench) put(l ...api.Rec) []int {
	b.t.Helper()
	var at []int
	for _, r := range l {
		at = append(at, b.raw(payload(b.t, r)))
	}
	return at
}

// raw appends any bytes as a record; its position.
func (b *bench) raw(s string) int {
	b.t.Helper()
	at, e := b.w.Append(s)
	if e != api.OK {
		b.t.Fatalf("wal.Append: %d", e)
	}
	return at
}

func (b *bench) flush() {
	b.t.Helper()
	is(b.t, "wal.Flush", b.w.Flush(), api.OK)
}

// lay appends records that last; their positions.
func (b *bench) lay(l ...api.Rec) []int {
	b.t.Helper()
	at := b.put(l...)
	b.flush()
	return at
}

// fill appends records of which nothing comes, so that the log's last segment has just so much room left.
func (b *bench) fill(room int) {
	b.t.Helper()
	for left := api.SegmentSize - b.w.End()%api.SegmentSize - room; left > 0; {
		n := min(left, 30)
		if left > 30 && left < 41 {
			n = left - 11
		}
		// A name has 1 to 16 bytes: frames have 11 to 26 bytes with a number of one byte, and up to 30 with one of five.
		r := api.Rec{Kind: api.RecPrepare, Xid: 1, Name: strings.Repeat("w", min(n-10, 16))}
		if n > 26 {
			r.Xid = 1 << (7 * (n - 26))
		}
		b.put(r)
		left -= n
	}
	if got := api.SegmentSize - b.w.End()%api.SegmentSize; got != room && got != room+api.SegmentSize {
		b.t.Fatalf("fill(%d) left %d", room, got)
	}
}

// wanted is a publication of the tables t, u and v, all of them.
func wanted() api.Publication {
	return api.Publication{Name: "p", Tables: []api.Published{{Table: "t", Kinds: 15}, {Table: "u", Kinds: 15}, {Table: "v", Kinds: 15}}}
}

func slotAt(confirmed, restart int) api.Slot {
	return api.Slot{Name: "a", Publication: wanted(), Confirmed: confirmed, Restart: restart}
}

// open is a decoder of all, from a place on.
func (b *bench) open(confirmed, restart, limit int) *decode.Decoder {
	b.t.Helper()
	return b.opens(slotAt(confirmed, restart), limit)
}

func (b *bench) opens(x api.Slot, limit int) *decode.Decoder {
	b.t.Helper()
	d, e := decode.Open(b.w, b.d, x, limit)
	if d == nil || e != api.OK {
		b.t.Fatalf("Open of %d, %d with %d: %d", x.Confirmed, x.Restart, limit, e)
	}
	return d
}

// refuses holds that Open answers an error, and nothing else.
func (b *bench) refuses(x api.Slot, limit int, want api.Errno) {
	b.t.Helper()
	if d, e := decode.Open(b.w, b.d, x, limit); d != nil || e != want {
		b.t.Errorf("Open of %q, %d, %d with %d: %v, %d, want %d", x.Name, x.Confirmed, x.Restart, limit, d, e, want)
	}
}

// Records.

func rec(kind, xid int) api.Rec           { return api.Rec{Kind: kind, Xid: xid} }
func begin(xid int) api.Rec               { return rec(api.RecBegin, xid) }
func commit(xid int) api.Rec              { return rec(api.RecCommit, xid) }
func abort(xid int) api.Rec               { return rec(api.RecAbort, xid) }
func back(xid int) api.Rec                { return rec(api.RecBack, xid) }
func release(xid int) api.Rec             { return rec(api.RecRelease, xid) }
func part(xid, parent int) api.Rec        { return api.Rec{Kind: api.RecPart, Xid: xid, Parent: parent} }
func create(xid int, t api.Table) api.Rec { return api.Rec{Kind: api.RecCreate, Xid: xid, Tab: t} }
func widen(xid int, t api.Table) api.Rec  { return api.Rec{Kind: api.RecWiden, Xid: xid, Tab: t} }
func drop(xid, table int) api.Rec         { return api.Rec{Kind: api.RecDrop, Xid: xid, Table: table} }
func empty(xid, table int) api.Rec        { return api.Rec{Kind: api.RecEmpty, Xid: xid, Table: table} }

func prepare(xid int, name string) api.Rec {
	return api.Rec{Kind: api.RecPrepare, Xid: xid, Name: name}
}

func checkpoint(l ...api.Table) api.Rec {
	return api.Rec{Kind: api.RecCheckpoint, Xid: 1000, Table: 1000, Tabs: l}
}

func insert(xid, table int, l ...int) api.Rec {
	return api.Rec{Kind: api.RecInsert, Xid: xid, Table: table, New: row(l...)}
}

func remove(xid, table int, l ...int) api.Rec {
	return api.Rec{Kind: api.RecDelete, Xid: xid, Table: table, Old: row(l...)}
}

func update(xid, table int, from, to api.Row) api.Rec {
	return api.Rec{Kind: api.RecUpdate, Xid: xid, Table: table, Old: from, New: to}
}

func row(l ...int) api.Row {
	var r api.Row
	for _, n := range l {
		r = append(r, api.Value{Kind: api.Int, N: n})
	}
	return r
}

// table has so many columns of numbers, the first of which is the key; its version hangs on them.
func table(id int, name string, columns int) api.Table {
	t := api.Table{ID: id, Version: columns, Name: name, Columns: []api.Column{{Name: "id", Kind: api.Int}}}
	for i := range columns - 1 {
		t.Columns = append(t.Columns, api.Column{Name: fmt.Sprint("n", i+1), Kind: api.Int, Null: true})
	}
	return t
}

// one is the table t, with one column.
func one() api.Table { return table(1, "t", 1) }

// words are messages as text, with a comma between.
func words(l []string) string {
	var out []string
	for _, s := range l {
		m, e := publish.Decode(s)
		if e != api.OK {
			return fmt.Sprintf("no message: %q", s)
		}
		switch m.Kind {
		case api.MsgBegin:
			out = append(out, fmt.Sprint("begin ", m.Xid))
		case api.MsgTable:
			out = append(out, fmt.Sprintf("%s %d.%d", m.Tab.Name, m.Tab.ID, m.Tab.Version))
		case api.MsgInsert:
			out = append(out, fmt.Sprintf("+%d%s", m.Table, values(m.New)))
		case api.MsgUpdate:
			out = append(out, fmt.Sprintf("=%d%s%s", m.Table, values(m.Old), values(m.New)))
		case api.MsgDelete:
			out = append(out, fmt.Sprintf("-%d%s", m.Table, values(m.Old)))
		case api.MsgEmpty:
			out = append(out, fmt.Sprint("empty ", m.Table))
		case api.MsgCommit:
			out = append(out, fmt.Sprint("commit ", m.Xid))
		default:
			out = append(out, fmt.Sprint("kind ", m.Kind))
		}
	}
	return strings.Join(out, ", ")
}

func values(r api.Row) string {
	var l []string
	for _, v := range r {
		l = append(l, fmt.Sprint(v.N)+v.S)
	}
	return "(" + strings.Join(l, " ") + ")"
}

// steps holds what Steps answer, one behind the other: the messages as text, or an error's number behind a !.
func steps(t *testing.T, x *decode.Decoder, want ...string) {
	t.Helper()
	for i, w := range want {
		at := x.Position()
		l, e := x.Step()
		got := words(l)
		if e != api.OK {
			got += fmt.Sprint("!", int(e))
		}
		if got != w {
			t.Errorf("Step %d, at %d: %s, want %s", i+1, at, got, w)
		}
	}
}

// nothing holds that so many Steps tell nothing.
func nothing(t *testing.T, x *decode.Decoder, n int) {
	t.Helper()
	for range n {
		steps(t, x, "")
	}
}

// answer is what a Step, or an Ahead, answered.
type answer struct {
	told []string
	e    api.Errno
}

func (a answer) String() string { return fmt.Sprintf("%s !%d", words(a.told), int(a.e)) }

func same(a, b answer) bool { return a.e == b.e && slices.Equal(a.told, b.told) }

// all reads to the end, or to an error: the answers that tell something, and the last one.
func all(x *decode.Decoder) []answer {
	var out []answer
	for {
		l, e := x.Step()
		if len(l) > 0 || e != api.OK {
			out = append(out, answer{l, e})
		}
		if e != api.OK {
			return out
		}
	}
}

// whole reads to the end, which it must reach: all messages.
func whole(t *testing.T, x *decode.Decoder) []string {
	t.Helper()
	var out []string
	for _, a := range all(x) {
		if a.e != api.OK && a.e != api.ErrDecodeEnd {
			t.Fatalf("Step: %d at %d", a.e, x.Position())
		}
		out = append(out, a.told...)
	}
	return out
}

// endOf is where a commit ends that was told.
func endOf(t *testing.T, s string) int {
	t.Helper()
	m, e := publish.Decode(s)
	if e != api.OK || m.Kind != api.MsgCommit {
		t.Fatalf("no commit: %+v, %d", m, e)
	}
	return m.End
}

// counts holds what Counts tells.
func counts(t *testing.T, x *decode.Decoder, bytes, changes, spilled, open int) {
	t.Helper()
	if got := x.Counts(); got != (api.Counts{Bytes: bytes, Changes: changes, Spilled: spilled, Open: open}) {
		t.Errorf("Counts: %+v, want %d %d %d %d", got, bytes, changes, spilled, open)
	}
}

// spilled are the files of decoders that a disk has.
func spilled(d *files.Disk) []string {
	return slices.DeleteFunc(d.List(), func(name string) bool { return !strings.HasPrefix(name, "spill.") })
}

// clean holds that no file of a decoder is left.
func (b *bench) clean() {
	b.t.Helper()
	if l := spilled(b.d); len(l) > 0 {
		b.t.Errorf("files are left: %q", l)
	}
}

// kill lets a disk die by an act of somebody else's.
func kill(t *testing.T, d *files.Disk) {
	t.Helper()
	is(t, "Arm", d.Arm(1), api.OK)
	is(t, "Create", d.Create("probe"), api.ErrDead)
}

// revive is a crash that keeps all bytes.
func revive(t *testing.T, d *files.Disk) {
	t.Helper()
	var l []api.Keep
	for _, name := range d.List() {
		l = append(l, api.Keep{Name: name, Bytes: d.Pending(name)})
	}
	is(t, "Crash", d.Crash(l), api.OK)
}

// costs holds how many acts a call does; behind that the disk lives, and is not armed.
func costs(t *testing.T, d *files.Disk, want int, what string, call func()) {
	t.Helper()
	is(t, "Arm", d.Arm(want+1), api.OK)
	call()
	if d.Dead() {
		t.Fatalf("%s: more acts than %d", what, want)
	}
	if d.Create("probe") != api.ErrDead {
		t.Fatalf("%s: fewer acts than %d", what, want)
	}
	revive(t, d)
}
