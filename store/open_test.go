package store_test

import (
	"fmt"
	"math"
	"slices"
	"strings"
	"testing"

	"confluence/api"
	"confluence/code"
	"confluence/store"
)

func TestS2None(t *testing.T) {
	for _, l := range [][]api.File{
		nil,
		{{Name: "wal.000001", Bytes: newLog}},
		{{Name: "base.new", Bytes: newBase}, {Name: "wal.000001", Bytes: newLog}},
		{{Name: "base"}, {Name: "wal.000001", Bytes: newLog}},
		{{Name: "base", Bytes: newBase}},
		{{Name: "base", Bytes: newBase}, {Name: "wal.1"}},
	} {
		d := loaded(t, l)
		opens(t, fmt.Sprintf("%q", l), d, false)
		if got := bytesOf(t, d); !slices.Equal(got, l) {
			t.Errorf("an Open that is refused leaves %q, want %q", got, l)
		}
	}
	d := loaded(t, nil)
	d.Arm(1)
	d.Create("x")
	if s, e := store.Open(d); s != nil || e != api.ErrDead {
		t.Errorf("Open of a dead disk: %v, %d", s != nil, e)
	}
}

// TestS2Cut: a base is whole, and nothing is behind it; no bit of it may be another one.
func TestS2Cut(t *testing.T) {
	whole := good().bytes()
	for n := range len(whole) {
		d := loaded(t, []api.File{{Name: "base", Bytes: whole[:n]}, {Name: "wal.000001"}})
		opens(t, fmt.Sprintf("the first %d bytes of a base", n), d, false)
		spoilt := []byte(whole)
		spoilt[n] ^= 1 << (n % 8)
		d = loaded(t, []api.File{{Name: "base", Bytes: string(spoilt)}, {Name: "wal.000001"}})
		opens(t, fmt.Sprintf("a base with another bit in byte %d", n), d, false)
	}
	for _, s := range []string{"\x00", "x", "\xc7", framed(""), framed("x"), framed(rowPage(7, r(nil, "b"))), newBase} {
		b := good()
		b.behind = s
		opens(t, fmt.Sprintf("%q behind a base", s), b.disk(t), false)
		d := loaded(t, []api.File{{Name: "base", Bytes: s + good().bytes()}, {Name: "wal.000001"}})
		opens(t, fmt.Sprintf("%q ahead of a base", s), d, false)
	}
}

// spoiled is a right base in which one thing is wrong.
type spoiled struct {
	what string
	with func(*base)
}

func TestS2Head(t *testing.T) {
	for _, x := range []spoiled{
		{"another mark", func(b *base) { b.mark = "CA" }},
		{"a mark of other letters", func(b *base) { b.mark = "cb" }},
		{"no mark", func(b *base) { b.mark = "" }},
		{"a mark too many", func(b *base) { b.mark = "CBCB" }},
		{"no position", func(b *base) { b.position = 0 }},
		{"a position above all", func(b *base) { b.position = lastPosition + 1 }},
		{"the greatest position", func(b *base) { b.position = math.MaxInt }},
		{"an origin fewer", func(b *base) { b.origins-- }},
		{"an origin more", func(b *base) { b.origins++ }},
		{"an origin as a row", func(b *base) { b.origins--; b.rows++ }},
		{"a row as an origin", func(b *base) { b.origins++; b.rows-- }},
		{"a row fewer", func(b *base) { b.rows-- }},
		{"a row more", func(b *base) { b.rows++ }},
		{"more rows than may be", func(b *base) { b.rows = math.MaxInt }},
		{"more origins than may be", func(b *base) { b.origins = math.MaxInt }},
		{"more of both than may be", func(b *base) { b.origins, b.rows = math.MaxInt, math.MaxInt }},
		{"no row told of", func(b *base) { b.rows = 0 }},
		{"an origin cut off the end", func(b *base) { b.tail = b.tail[:1]; b.rows = 0 }},
		{"a row missing", func(b *base) { b.tail = b.tail[:len(b.tail)-1] }},
		{"no record", func(b *base) { b.check = "" }},
		{"a record of another kind", func(b *base) { b.check = encoded(api.Rec{Kind: api.RecBegin, Xid: 9}) }},
		{"a record that is none", func(b *base) { b.check += "\x00" }},
		{"a record that is cut", func(b *base) { b.check = b.check[:len(b.check)-1] }},
	} {
		b := good()
		x.with(&b)
		opens(t, x.what, b.disk(t), false)
	}
	for _, s := range []string{"", "C", "CB", "CB\x80\x40", "CB\x80\x40\x00", "CB\x80\x40\x00\x00\x00", "CB\x80\xc0\x00\x00\x00", "CB\x80\x40\x80\x00\x00"} {
		d := loaded(t, []api.File{{Name: "base", Bytes: framed(s) + framed("\x0f\x01\x01\x00")}, {Name: "wal.000001", Bytes: newLog}})
		opens(t, fmt.Sprintf("the head %q", s), d, false)
	}
	// records of other kinds, which have a table, too
	for _, x := range []api.Rec{begins(9), parts(9, 8), inserts(9, 8, 1), deletes(9, 8, 1), updates(9, 8, r(1), r(2)), drops(9, 8), empties(9, 8), commits(9), aborts(9), creates(9, narrow), widens(9, wider), prepares(9, "w")} {
		b := baseOf(8192, checks(9, 8), nil, nil)
		opens(t, "a base without rows", b.disk(t), true)
		b.check = encoded(x)
		opens(t, fmt.Sprint("a base with a record of the kind ", x.Kind), b.disk(t), false)
	}
	for _, s := range []string{framed("CB\x80\x40\x00\x00"), framed("\x0f\x01\x01\x00"), framed("\x0f\x01\x01\x00") + framed("CB\x80\x40\x00\x00")} {
		d := loaded(t, []api.File{{Name: "base", Bytes: s}, {Name: "wal.000001", Bytes: newLog}})
		opens(t, fmt.Sprintf("%q", s), d, false)
	}
}

func TestS2Origins(t *testing.T) {
	check := api.Rec{Kind: api.RecCheckpoint, Xid: 1, Table: 1}
	for _, l := range [][]origin{
		{{"b", 1}, {"a", 1}},
		{{"a", 1}, {"a", 2}},
		{{"a", 1}, {"b", 1}, {"aa", 1}},
		{{"a", 0}},
		{{"a", lastPosition + 1}},
		{{"a", math.MaxInt}},
		{{"abcdefghijklmnopq", 1}},
	} {
		opens(t, fmt.Sprint("origins ", l), baseOf(8192, check, l, nil).disk(t), false)
	}
	for _, name := range odd {
		opens(t, fmt.Sprintf("the origin %q", name), baseOf(8192, check, []origin{{name, 1}}, nil).disk(t), false)
	}
	for _, p := range []string{"", "\x01a", "\x01a\x01\x00", "\x01a\x80\x00", "\x02a\x01", "\x81\x00a\x01"} {
		b := baseOf(8192, check, []origin{{"a", 1}}, nil)
		b.tail[0] = p
		opens(t, fmt.Sprintf("the origin's page %q", p), b.disk(t), false)
	}
	for _, l := range [][]origin{
		{{"a", 1}},
		{{"a", 5}, {"aa", 1}, {"b", lastPosition}, {"b1", 8192}, {"b_", 8192}},
		{{"abcdefghijklmnop", 1}},
	} {
		k := &desk{t: t, d: baseOf(8192, check, l, nil).disk(t)}
		k.open()
		for _, o := range l {
			k.is("Origin of "+o.name, k.s.Origin(o.name), o.lsn)
		}
	}
}

func TestS2Tables(t *testing.T) {
	one := table(1, 1, "t", two, 0)
	for _, x := range []api.Rec{
		{Kind: api.RecCheckpoint, Xid: 1, Table: 1},
		{Kind: api.RecCheckpoint, Xid: 1, Table: 2, Tabs: []api.Table{one}},
		{Kind: api.RecCheckpoint, Xid: lastXid + 1, Table: lastXid + 1, Tabs: []api.Table{table(lastXid, lastXid, "t", two, 0)}},
	} {
		k := &desk{t: t, d: baseOf(8192, x, nil, nil).disk(t)}
		k.open()
		k.is("Tables", fmt.Sprint(k.s.Tables()), fmt.Sprint(x.Tabs))
	}
	// The record's own form is layer 6's; some of it here, as bytes.
	right := encoded(api.Rec{Kind: api.RecCheckpoint, Xid: 1, Table: 2, Tabs: []api.Table{one}})
	for _, x := range []string{
		strings.Replace(right, "\x02id", "\x02Id", 1),
		strings.Replace(right, "\x0f\x01\x02", "\x0f\x00\x02", 1),
		strings.Replace(right, "\x0f\x01\x02", "\x0f\x01\x01", 1),
		right[:len(right)-1] + "\x01",
	} {
		b := baseOf(8192, api.Rec{Kind: api.RecCheckpoint, Xid: 1, Table: 1}, nil, nil)
		b.check = x
		opens(t, fmt.Sprintf("the record %q", x), b.disk(t), false)
	}
}

func TestS2Rows(t *testing.T) {
	check := api.Rec{Kind: api.RecCheckpoint, Xid: 2, Table: 5, Tabs: []api.Table{
		table(2, 1, "t", two, 0),
		table(4, 1, "u", []api.Column{{Name: "n", Kind: api.Bool, Null: true}, {Name: "k", Kind: api.Text}}, 1),
	}}
	long := strings.Repeat("x", 200)
	for _, l := range [][]line{
		{{1, r(1, "a")}},
		{{3, r(1, "a")}},
		{{5, r(1, "a")}},
		{{0, r(1, "a")}},
		{{2, r(1)}},
		{{2, r()}},
		{{2, r(1, "a", nil)}},
		{{2, r(nil, "a")}},
		{{2, r("1", "a")}},
		{{2, r(1, 1)}},
		{{2, r(1, true)}},
		{{2, r(1, long+"x")}},
		{{4, r(true)}},
		{{4, r(true, nil)}},
		{{4, r("a", "a")}},
		{{2, r(1, "a")}, {2, r(1, "a")}},
		{{2, r(1, "a")}, {2, r(1, "b")}},
		{{2, r(2, "a")}, {2, r(1, "b")}},
		{{2, r(0, "a")}, {2, r(-1, "b")}},
		{{4, r(nil, "b")}, {4, r(nil, "aa")}},
		{{4, r(nil, "a")}, {2, r(1, "b")}},
		{{2, r(1, "a")}, {4, r(nil, "a")}, {2, r(2, "b")}},
	} {
		opens(t, fmt.Sprint("rows ", l), baseOf(8192, check, nil, l).disk(t), false)
	}
	for _, p := range []string{"", "\x02", "\x02\x02\x01\x02", "\x82\x00\x02\x01\x02\x00", "\x02\x02\x01\x02\x00\x00", "\x02\x02\x01\x82\x00\x00", "\x80", "\x02\x02\x01\x02\x05"} {
		b := baseOf(8192, check, nil, []line{{2, r(1, nil)}})
		b.tail[0] = p
		opens(t, fmt.Sprintf("the row's page %q", p), b.disk(t), false)
	}
	right := []line{{2, r(-2, "a")}, {2, r(-1, nil)}, {2, r(0, long)}, {2, r(math.MaxInt, "")}, {4, r(nil, "")}, {4, r(nil, "a")}, {4, r(nil, long)}}
	k := &desk{t: t, d: baseOf(8192, check, nil, right).disk(t)}
	k.open()
	k.is("rows", strings.Count(k.rows(0, "t"), "("), 4)
	check.Xid = 1
	opens(t, "rows, and the next number is 1", baseOf(8192, check, nil, right[:1]).disk(t), false)
	opens(t, "no rows, and the next number is 1", baseOf(8192, check, nil, nil).disk(t), true)
}

// TestS2Position: the base's position is one from which the log can be read, or its end.
func TestS2Position(t *testing.T) {
	begin := encoded(api.Rec{Kind: api.RecBegin, Xid: 1})
	abort := encoded(api.Rec{Kind: api.RecAbort, Xid: 1})
	log := framed(begin) + framed(abort) // at 8192 and 8201, to 8210
	empty := api.Rec{Kind: api.RecCheckpoint, Xid: 1, Table: 1}
	for _, x := range []struct {
		position int
		want     bool
	}{
		{1, false}, {8191, false}, {8192, true}, {8193, false}, {8200, false}, {8202, false}, {8210, true}, {8211, false}, {16384, false}, {lastPosition, false},
	} {
		l := []api.File{{Name: "base", Bytes: baseOf(x.position, empty, nil, nil).bytes()}, {Name: "wal.000001", Bytes: log}}
		opens(t, fmt.Sprint("the position ", x.position), loaded(t, l), x.want)
	}
	// at 8201 stands an abort of nobody
	l := []api.File{{Name: "base", Bytes: baseOf(8201, empty, nil, nil).bytes()}, {Name: "wal.000001", Bytes: log}}
	opens(t, "the position 8201", loaded(t, l), false)
	l[1].Bytes = framed(encoded(api.Rec{Kind: api.RecCommit, Xid: 5})) + framed(begin)
	l[0].Bytes = baseOf(8192+len(framed(encoded(api.Rec{Kind: api.RecCommit, Xid: 5}))), empty, nil, nil).bytes()
	opens(t, "a record ahead of the base's position that can't be done", loaded(t, l), true)
}

// padded are the bytes of a full segment that begins with these frames.
func padded(frames string) string {
	return frames + strings.Repeat("\x00", api.SegmentSize-len(frames))
}

// TestS2StandsFor: a position behind the last record of a full segment stands for where the next one begins, and so on.
func TestS2StandsFor(t *testing.T) {
	empty := api.Rec{Kind: api.RecCheckpoint, Xid: 1, Table: 1}
	first := framed("ahead")
	begin := framed(encoded(api.Rec{Kind: api.RecBegin, Xid: 1})) + framed(encoded(api.Rec{Kind: api.RecPrepare, Xid: 1, Name: "w"}))
	behind := 8192 + len(first)
	for _, x := range []struct {
		what     string
		position int
		segments []string
		want     bool
		waits    int
	}{
		{"the next segment's beginning", behind, []string{padded(first), begin}, true, 1},
		{"the beginning itself", 16384, []string{padded(first), begin}, true, 1},
		{"a noughts' place", behind + 1, []string{padded(first), begin}, false, 0},
		{"the end of the noughts", 16383, []string{padded(first), begin}, false, 0},
		{"across a segment without a record", behind, []string{padded(first), padded(""), begin}, true, 1},
		{"a segment without a record", 16384, []string{padded(first), padded(""), begin}, true, 1},
		{"an empty one that is the end", behind, []string{padded(first), ""}, true, 0},
		{"the end behind two", behind, []string{padded(first), padded(""), ""}, true, 0},
		{"the end in the midst", 16384, []string{padded(first), padded(""), ""}, true, 0},
		{"the end itself", 24576, []string{padded(first), padded(""), ""}, true, 0},
		{"above the end", 24577, []string{padded(first), padded(""), ""}, false, 0},
		{"a full one at the end, which is cut", behind, []string{padded(first)}, true, 0},
		{"where the next one is not", 16384, []string{padded(first)}, false, 0},
	} {
		l := []api.File{{Name: "base", Bytes: baseOf(x.position, empty, nil, nil).bytes()}}
		for i, s := range x.segments {
			l = append(l, api.File{Name: fmt.Sprintf("wal.%06d", i+1), Bytes: s})
		}
		s := opens(t, x.what, loaded(t, l), x.want)
		if s != nil && (len(s.Prepared()) != x.waits || s.Based() != x.position) {
			t.Errorf("%s: %q wait, Based %d", x.what, s.Prepared(), s.Based())
		}
	}
}

// TestS2Trimmed: a log that begins behind the first segment; the base may not lie below that.
func TestS2Trimmed(t *testing.T) {
	empty := api.Rec{Kind: api.RecCheckpoint, Xid: 1, Table: 1}
	for position, want := range map[int]bool{8192: false, 16384: false, 24575: false, 24576: true} {
		l := []api.File{{Name: "base", Bytes: baseOf(position, empty, nil, nil).bytes()}, {Name: "wal.000003", Bytes: framed(encoded(empty))}}
		opens(t, fmt.Sprint("the position ", position), loaded(t, l), want)
	}
}

// TestS2Order: a base that is none is told ahead of any act; the log is repaired ahead of asking for the position;
// base.new is taken away behind that, and ahead of doing any record.
func TestS2Order(t *testing.T) {
	junk := api.File{Name: "base.new", Bytes: "junk"}
	cut := newLog + "junk"
	spoilt := []api.File{{Name: "other"}, {Name: "base"}, {Name: "base", Bytes: "junk"}, {Name: "base", Bytes: newBase + "x"}, {Name: "base", Bytes: framed("CB\x80\x40\x00\x00")}}
	for _, with := range []func(*base){
		func(b *base) { b.rows++ },
		func(b *base) { b.position = 0 },
		func(b *base) { b.position = lastPosition + 1 },
		func(b *base) { b.check = encoded(checks(1, 8)) },
		func(b *base) { b.check = encoded(begins(9)) },
		func(b *base) { b.tail[0] = b.tail[1] },
		func(b *base) { b.tail[3] = b.tail[2] },
		func(b *base) { b.tail[3] = "" },
	} {
		b := good()
		with(&b)
		spoilt = append(spoilt, api.File{Name: "base", Bytes: b.bytes()})
	}
	for _, f := range spoilt {
		l := []api.File{f, junk, {Name: "wal.000001", Bytes: cut}}
		slices.SortFunc(l, func(a, b api.File) int { return strings.Compare(a.Name, b.Name) })
		d := loaded(t, l)
		opens(t, "no base", d, false)
		if got := bytesOf(t, d); !slices.Equal(got, l) {
			t.Errorf("%q is no base: an Open leaves %q", f.Bytes, got)
		}
	}
	empty := api.Rec{Kind: api.RecCheckpoint, Xid: 1, Table: 1}
	far := baseOf(8300, empty, nil, nil).bytes()
	d := loaded(t, []api.File{{Name: "base", Bytes: far}, junk, {Name: "wal.000001", Bytes: cut}})
	opens(t, "no position", d, false)
	if got := bytesOf(t, d); !slices.Equal(got, []api.File{{Name: "base", Bytes: far}, junk, {Name: "wal.000001", Bytes: newLog}}) {
		t.Errorf("no position: an Open leaves %q", got)
	}
	nobody := framed(encoded(api.Rec{Kind: api.RecCommit, Xid: 7}))
	d = loaded(t, []api.File{{Name: "base", Bytes: newBase}, junk, {Name: "wal.000001", Bytes: newLog + nobody}})
	opens(t, "a record that can't be", d, false)
	if got := bytesOf(t, d); !slices.Equal(got, []api.File{{Name: "base", Bytes: newBase}, {Name: "wal.000001", Bytes: newLog + nobody}}) {
		t.Errorf("a record that can't be: an Open leaves %q", got)
	}
}

// TestS2Aborts: what was active is aborted, by rising numbers, and that lasts; what waits waits, and has its numbers.
func TestS2Aborts(t *testing.T) {
	k := newDesk(t)
	for range 4 {
		k.begin()
	}
	k.ok(k.s.Savepoint(3, "a"), k.s.Insert(3, "t", r(3)), k.s.Insert(4, "t", r(4)), k.s.Insert(2, "t", r(2)))
	k.ok(k.s.Prepare(4, "w"))
	end := k.s.Log().End()
	k.crash()
	k.seen = end
	k.logged("abort 2", "abort 3", "abort 5")
	k.lasts(true)
	k.is("Active", len(k.s.Active()), 0)
	k.is("Prepared", k.s.Prepared(), []string{"w"})
	k.is("rows", k.rows(0, "t"), "")
	k.is("Begin", k.begin(), 7)
	k.is("a row that one wrote who waits", k.s.Insert(7, "t", r(4)), api.ErrRowConflict)
	k.ok(k.s.Insert(7, "t", r(2)), k.s.Insert(7, "t", r(3)))
	_, e := k.s.CommitPrepared("w")
	k.ok(e)
	k.sees(0, "(4, null)")
}

// TestS2Again: an Open behind an Open has no act, finds the same, and logs nothing.
func TestS2Again(t *testing.T) {
	k := newDesk(t)
	k.put(1, "a")
	x := k.begin()
	k.ok(k.s.Insert(x, "t", r(2, "b")), k.s.Prepare(x, "w"))
	k.begin()
	k.crashKeeping()
	was := bytesOf(t, k.d)
	for range 2 {
		k.ok(k.d.Arm(1))
		k.open()
		k.ok(k.d.Arm(0))
		if got := bytesOf(t, k.d); !slices.Equal(got, was) {
			t.Errorf("a second Open leaves %q, want %q", got, was)
		}
		k.sees(0, "(1, 'a')")
		k.is("Prepared", k.s.Prepared(), []string{"w"})
	}
}

// TestS2Dies: an Open has these acts: it repairs the log (a Remove, a Truncate), takes base.new away, logs two aborts, and syncs.
func TestS2Dies(t *testing.T) {
	k := newDesk(t)
	k.begin()
	k.begin()
	k.ok(k.d.Sync("wal.000001"))
	k.ok(k.d.Append("wal.000001", "junk"), k.d.Sync("wal.000001"), k.d.Create("wal.000003"), k.d.Create("base.new"))
	l := k.d.Files()
	const acts = 6
	for n := 1; n <= acts+1; n++ {
		d := loaded(t, l)
		d.Arm(n)
		s, e := store.Open(d)
		if n <= acts {
			if s != nil || e != api.ErrDead {
				t.Errorf("Open that dies in act %d: %v, %d", n, s != nil, e)
			}
			d.Crash(pending(d))
			if s, e = store.Open(d); e != api.OK || len(s.Active()) != 0 {
				t.Errorf("Open behind one that died in act %d: %d", n, e)
			}
			continue
		}
		if s == nil || e != api.OK || d.Create("x") != api.ErrDead {
			t.Errorf("Open has not %d acts: %d", acts, e)
		}
	}
	d := loaded(t, l)
	d.FailSync(1)
	if s, e := store.Open(d); s != nil || e != api.ErrStoreDoubt {
		t.Errorf("Open whose Sync fails: %v, %d", s != nil, e)
	}
	opens(t, "Open behind that", d, true)
	size := 0
	for _, f := range l {
		size += len(f.Bytes)
	}
	frame := len(framed(encoded(api.Rec{Kind: api.RecAbort, Xid: 2})))
	for free, want := range map[int]api.Errno{0: 100, frame - 5: 100, 2*frame - 5: 100, 2*frame - 4: 0} { // junk has 4, and is cut
		d := loadedWith(t, size+free, l)
		if s, e := store.Open(d); (s != nil) != (want == api.OK) || e != want {
			t.Errorf("Open with %d bytes free: %v, %d, want %d", free, s != nil, e, want)
		}
	}
}

// TestS2SyncOfTheLog: what of the log does not last is synced by wal.Open; if that fails the store is not there.
func TestS2SyncOfTheLog(t *testing.T) {
	k := newDesk(t)
	k.begin()
	k.ok(k.d.FailSync(1))
	if s, e := store.Open(k.d); s != nil || e != api.ErrStoreDoubt {
		t.Errorf("Open whose first Sync fails: %v, %d", s != nil, e)
	}
	k.ok(k.d.FailSync(2))
	if s, e := store.Open(k.d); s != nil || e != api.ErrStoreDoubt {
		t.Errorf("Open whose second Sync fails: %v, %d", s != nil, e)
	}
	k.open()
	k.is("Begin", k.begin(), 3)
}

// TestS2AnyBytes: of whatever stands in the files an Open ends, and answers.
func TestS2AnyBytes(t *testing.T) {
	k := newDesk(t)
	k.put(1, "a")
	committed := k.s.Log().End() - 8192
	x := k.begin()
	k.ok(k.s.Insert(x, "t", r(2, "b")), k.s.Prepare(x, "w"))
	log := fileOf(t, k.d, "wal.000001")
	base := fileOf(t, k.d, "base")
	for n := range len(log) { // cut wherever: the log is its longest right beginning
		d := loaded(t, []api.File{{Name: "base", Bytes: base}, {Name: "wal.000001", Bytes: log[:n]}})
		s := opens(t, fmt.Sprint("a log of ", n, " bytes"), d, true)
		if s == nil {
			continue
		}
		rows := 0
		for range s.Scan(0, "t") {
			rows++
		}
		if rows > 1 || rows == 1 && n < committed || rows == 0 && n >= committed {
			t.Errorf("a log of %d bytes: %d rows", n, rows)
		}
	}
	for n := range len(log) { // a byte that is spoilt cuts the log there
		spoilt := []byte(log)
		spoilt[n]++
		d := loaded(t, []api.File{{Name: "base", Bytes: base}, {Name: "wal.000001", Bytes: string(spoilt)}})
		opens(t, fmt.Sprint("a log whose byte ", n, " is spoilt"), d, true)
	}
	for _, payload := range []string{"\x00", "\x10", "x", "\x01", "\x01\x80", strings.Repeat("\x03", 4000)} {
		f, _ := code.Frame(payload)
		d := loaded(t, []api.File{{Name: "base", Bytes: base}, {Name: "wal.000001", Bytes: log + f}})
		opens(t, fmt.Sprintf("the record %q", payload[:min(5, len(payload))]), d, false)
	}
}
