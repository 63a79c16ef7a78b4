package reorder_test

import (
	"fmt"
	"math"
	"slices"
	"strings"
	"testing"

	"confluence/api"
	"confluence/files"
	"confluence/reorder"
	"confluence/spill"
	"confluence/value"
)

// never is a limit that is never reached.
const never = math.MaxInt

// bench is a buffer with all that it stands on.
type bench struct {
	t *testing.T
	d *files.Disk
	s *spill.Store
	b *reorder.Buffer
}

// begun is an empty buffer over files of the name a.
func begun(t *testing.T, capacity, limit int) *bench {
	t.Helper()
	d, e := files.New(capacity)
	if d == nil || e != api.OK {
		t.Fatalf("files.New: %d", e)
	}
	return beside(t, d, "a", limit)
}

// beside is an empty buffer over files of a name on a disk.
func beside(t *testing.T, d *files.Disk, name string, limit int) *bench {
	t.Helper()
	s, e := spill.Open(d, name)
	if s == nil || e != api.OK {
		t.Fatalf("spill.Open: %d", e)
	}
	b, e := reorder.New(limit, s)
	if b == nil || e != api.OK {
		t.Fatalf("New(%d): %d", limit, e)
	}
	return &bench{t, d, s, b}
}

func is(t *testing.T, what string, got, want api.Errno) {
	t.Helper()
	if got != want {
		t.Errorf("%s: %d, want %d", what, got, want)
	}
}

func number(n int) api.Value     { return api.Value{Kind: api.Int, N: n} }
func text(s string) api.Value    { return api.Value{Kind: api.Text, S: s} }
func truth(n int) api.Value      { return api.Value{Kind: api.Bool, N: n} }
func row(l ...api.Value) api.Row { return l }

// bare is a change without rows, which counts 32.
func bare(lsn, xid int) api.Change {
	return api.Change{Lsn: lsn, Xid: xid, Kind: api.RecInsert, Table: 1}
}

// bares are some, at these positions.
func bares(xid int, lsns ...int) []api.Change {
	var l []api.Change
	for _, lsn := range lsns {
		l = append(l, bare(lsn, xid))
	}
	return l
}

// full is a change in which all hangs on its position.
func full(lsn, xid int) api.Change {
	return api.Change{Lsn: lsn, Xid: xid, Kind: api.RecInsert + lsn%3, Table: 1 + lsn%4, Old: row(number(-lsn)), New: row(api.Value{}, text(fmt.Sprint("x", lsn)), truth(lsn%2))}
}

// sized is a change that counts so much, which is 35 to 236, but not 163: no row of one text has so many bytes.
func sized(lsn, xid, size int) api.Change {
	c := bare(lsn, xid)
	// A row of one short text has its count, its mark, its length and its bytes; of a longer one the length is a byte more.
	n := size - 32 - 3
	if n > 127 {
		n--
	}
	c.New = row(text(strings.Repeat("s", n)))
	return c
}

// rowBytes is a row as layer 4 writes it; nothing, if it cannot be written.
func rowBytes(r api.Row) string {
	s, _ := value.Encode(r)
	return s
}

// sizeOf is a change's size, by the words.
func sizeOf(c api.Change) int {
	sum := 32
	for _, r := range []api.Row{c.Old, c.New} {
		if len(r) > 0 {
			sum += len(rowBytes(r))
		}
	}
	return sum
}

func same(a, b api.Change) bool {
	return a.Lsn == b.Lsn && a.Xid == b.Xid && a.Kind == b.Kind && a.Table == b.Table && value.Same(a.Old, b.Old) && value.Same(a.New, b.New)
}

func isZero(c api.Change) bool { return same(c, api.Change{}) && c.Old == nil && c.New == nil }

func (x *bench) begin(xid, lsn int) {
	x.t.Helper()
	x.begins(xid, lsn, api.OK)
}

func (x *bench) begins(xid, lsn int, want api.Errno) {
	x.t.Helper()
	is(x.t, fmt.Sprintf("Begin(%d, %d)", xid, lsn), x.b.Begin(xid, lsn), want)
}

func (x *bench) part(xid, parent, lsn int) {
	x.t.Helper()
	x.parts(xid, parent, lsn, api.OK)
}

func (x *bench) parts(xid, parent, lsn int, want api.Errno) {
	x.t.Helper()
	is(x.t, fmt.Sprintf("Part(%d, %d, %d)", xid, parent, lsn), x.b.Part(xid, parent, lsn), want)
}

func (x *bench) add(l ...api.Change) {
	x.t.Helper()
	for _, c := range l {
		x.adds(c, api.OK)
	}
}

func (x *bench) adds(c api.Change, want api.Errno) {
	x.t.Helper()
	is(x.t, fmt.Sprintf("Add(%v)", c), x.b.Add(c), want)
}

func (x *bench) back(xid int) {
	x.t.Helper()
	x.backs(xid, api.OK)
}

func (x *bench) backs(xid int, want api.Errno) {
	x.t.Helper()
	is(x.t, fmt.Sprintf("Back(%d)", xid), x.b.Back(xid), want)
}

func (x *bench) abort(xid int) {
	x.t.Helper()
	x.aborts(xid, api.OK)
}

func (x *bench) aborts(xid int, want api.Errno) {
	x.t.Helper()
	is(x.t, fmt.Sprintf("Abort(%d)", xid), x.b.Abort(xid), want)
}

func (x *bench) commit(xid int) *reorder.Stream {
	x.t.Helper()
	s, e := x.b.Commit(xid)
	if s == nil || e != api.OK {
		x.t.Fatalf("Commit(%d): %d", xid, e)
	}
	return s
}

func (x *bench) commitsNot(xid int, want api.Errno) {
	x.t.Helper()
	if s, e := x.b.Commit(xid); s != nil || e != want {
		x.t.Errorf("Commit(%d): %v, %d, want %d", xid, s, e, want)
	}
}

// counts holds what Counts tells.
func (x *bench) counts(bytes, changes, spilled, open int) {
	x.t.Helper()
	if got := x.b.Counts(); got != (api.Counts{Bytes: bytes, Changes: changes, Spilled: spilled, Open: open}) {
		x.t.Errorf("Counts: %+v, want %d %d %d %d", got, bytes, changes, spilled, open)
	}
}

func (x *bench) oldest(want int) {
	x.t.Helper()
	if got := x.b.Oldest(); got != want {
		x.t.Errorf("Oldest: %d, want %d", got, want)
	}
}

// lists holds the names of the disk's files.
func (x *bench) lists(want ...string) {
	x.t.Helper()
	if got := x.d.List(); !slices.Equal(got, want) {
		x.t.Errorf("the files are %q, want %q", got, want)
	}
}

// segment holds just what a file has.
func (x *bench) segment(xid, k int, want ...api.Change) {
	x.t.Helper()
	cursor, e := x.s.Cursor(xid, k)
	if e != api.OK {
		x.t.Errorf("segment %d of %d: %d", k, xid, e)
		return
	}
	for _, c := range want {
		if got, ok, e := cursor.Next(); !ok || e != api.OK || !same(got, c) {
			x.t.Errorf("segment %d of %d: %v, %v, %d, want %v", k, xid, got, ok, e, c)
		}
	}
	if got, ok, e := cursor.Next(); ok || e != api.OK {
		x.t.Errorf("segment %d of %d: %v, %v, %d behind its end", k, xid, got, ok, e)
	}
}

// tells asks a stream for these changes, one behind the other.
func (x *bench) tells(s *reorder.Stream, want ...api.Change) {
	x.t.Helper()
	for _, c := range want {
		if got, ok, e := s.Next(); !ok || e != api.OK || !same(got, c) {
			x.t.Errorf("Next: %v, %v, %d, want %v", got, ok, e, c)
		}
	}
}

// nothing asks a stream twice for nothing: an error, or OK where it has ended.
func (x *bench) nothing(s *reorder.Stream, want api.Errno) {
	x.t.Helper()
	for range 2 {
		if got, ok, e := s.Next(); ok || e != want || !isZero(got) {
			x.t.Errorf("Next: %v, %v, %d, want nothing, %d", got, ok, e, want)
		}
	}
}

// whole commits a transaction that tells just these changes.
func (x *bench) whole(xid int, want ...api.Change) {
	x.t.Helper()
	s := x.commit(xid)
	x.tells(s, want...)
	x.nothing(s, api.OK)
}

// clean holds that nothing is left of all.
func (x *bench) clean() {
	x.t.Helper()
	x.lists()
	x.oldest(0)
	x.counts(0, 0, x.b.Counts().Spilled, 0)
	if l := x.s.All(); len(l) != 0 {
		x.t.Errorf("segments are left of %v", l)
	}
}

// closed holds that each call answers ErrReorderOpen, whatever else is wrong with it or right, and changes nothing.
func (x *bench) closed() {
	x.t.Helper()
	before, oldest, names := x.b.Counts(), x.b.Oldest(), x.d.List()
	for _, n := range []int{-1, 0, 1, 2, 3, 5, 77, api.MaxXid, api.MaxXid + 1} {
		for _, lsn := range []int{-1, 0, 1, 1000000} {
			x.begins(n, lsn, api.ErrReorderOpen)
			x.parts(n, 5, lsn, api.ErrReorderOpen)
			x.parts(n, 1, lsn, api.ErrReorderOpen)
			x.adds(bare(lsn, n), api.ErrReorderOpen)
			x.adds(api.Change{Lsn: lsn, Xid: n}, api.ErrReorderOpen)
		}
		x.backs(n, api.ErrReorderOpen)
		x.aborts(n, api.ErrReorderOpen)
		x.commitsNot(n, api.ErrReorderOpen)
	}
	if x.b.Counts() != before || x.b.Oldest() != oldest || !slices.Equal(x.d.List(), names) {
		x.t.Errorf("what was refused changed something: %+v, %d, %q", x.b.Counts(), x.b.Oldest(), x.d.List())
	}
}

// unchanged holds that a call changes neither what is told of the buffer nor a byte of the disk.
func (x *bench) unchanged(what string, call func()) {
	x.t.Helper()
	counts, oldest, names := x.b.Counts(), x.b.Oldest(), bytesOf(x.d)
	call()
	if x.b.Counts() != counts || x.b.Oldest() != oldest || !slices.Equal(bytesOf(x.d), names) {
		x.t.Errorf("%s changed something: %+v, %d, %q, was %+v, %d, %q", what, x.b.Counts(), x.b.Oldest(), bytesOf(x.d), counts, oldest, names)
	}
}

// bytesOf has each file's name, how many bytes of it are pending, and its bytes, of a disk that lives.
func bytesOf(d *files.Disk) []string {
	var out []string
	for _, name := range d.List() {
		n, _ := d.Size(name)
		s, _ := d.Read(name, 0, n)
		out = append(out, fmt.Sprintf("%s %d %q", name, d.Pending(name), s))
	}
	return out
}

// kill lets the disk die by an act of somebody else's.
func (x *bench) kill() {
	x.t.Helper()
	is(x.t, "Arm", x.d.Arm(1), api.OK)
	is(x.t, "Create", x.d.Create("probe"), api.ErrDead)
}

// revive is a crash that keeps all bytes.
func (x *bench) revive() {
	x.t.Helper()
	var l []api.Keep
	for _, name := range x.d.List() {
		l = append(l, api.Keep{Name: name, Bytes: x.d.Pending(name)})
	}
	is(x.t, "Crash", x.d.Crash(l), api.OK)
}

// costs holds how many acts a call does; behind that the disk lives, and is not armed.
func (x *bench) costs(want int, what string, call func()) {
	x.t.Helper()
	is(x.t, "Arm", x.d.Arm(want+1), api.OK)
	call()
	if x.d.Dead() {
		x.t.Fatalf("%s: more acts than %d", what, want)
	}
	if x.d.Create("probe") != api.ErrDead {
		x.t.Fatalf("%s: fewer acts than %d", what, want)
	}
	x.revive()
}

// written is changes as the bytes of a segment.
func written(t *testing.T, l ...api.Change) string {
	t.Helper()
	x := begun(t, 1000000, 0)
	out := ""
	for i, c := range l {
		is(t, "Write", x.s.Write(i+1, []api.Change{c}), api.OK)
		name := fmt.Sprintf("spill.a.%d.0", i+1)
		n, _ := x.d.Size(name)
		s, _ := x.d.Read(name, 0, n)
		out += s
	}
	return out
}

// replace gives a file other bytes, as somebody else may do.
func (x *bench) replace(name, bytes string) {
	x.t.Helper()
	is(x.t, "Truncate of "+name, x.d.Truncate(name, 0), api.OK)
	is(x.t, "Append to "+name, x.d.Append(name, bytes), api.OK)
}
