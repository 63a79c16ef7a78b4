package decode_test

import (
	"fmt"
	"math/rand"
	"strings"
	"testing"

	"confluence/api"
	"confluence/code"
	"confluence/decode"
	"confluence/files"
	"confluence/record"
	"confluence/wal"
)

// kinds is a log that has each kind of record, from a checkpoint on that stands where few bytes are left of a segment; where that stands.
func kinds(t *testing.T, room int) (*bench, int) {
	t.Helper()
	b := begun(t)
	b.fill(room)
	from := b.put(checkpoint(one()))[0]
	b.put(create(1, table(2, "u", 2)), begin(2), insert(2, 1, 5), part(3, 2), insert(3, 2, 6, 7), back(3), part(4, 2), update(4, 1, row(5), row(5)), release(4), begin(5), prepare(5, "w"),
		widen(6, table(2, "u", 3)), commit(2), empty(7, 1), checkpoint(), remove(5, 2, 1, 2, 3), commit(5), drop(8, 2), begin(9), insert(9, 2, 1), abort(9), checkpoint(one()), begin(10), insert(10, 1, 3), commit(10))
	b.flush()
	return b, from
}

// readAll reads a log from a place on, by Step, and holds all of it against the words; whether a decoder could be opened.
func readAll(t *testing.T, b *bench, from, limit int) bool {
	t.Helper()
	x := slotAt(0, from)
	d, e := decode.Open(b.w, b.d, x, limit)
	can := false
	for at, s := range b.w.Scan(from) {
		r, e := record.Decode(s)
		can = at == from && e == api.OK && r.Kind == api.RecCheckpoint
		break
	}
	if !can {
		if d != nil || e != api.ErrDecodeLog {
			t.Fatalf("Open: %v, %d", d, e)
		}
		return false
	}
	if d == nil || e != api.OK {
		t.Fatalf("Open: %d", e)
	}
	m := modelOf(t, b.w, x, limit, b.d.Free())
	for {
		m.holds(d)
		l, e := d.Step()
		if a := m.step(); !same(answer{l, e}, a) {
			t.Fatalf("at %d: %s, want %s", m.place, answer{l, e}, a)
		}
		if e != api.OK {
			return true
		}
	}
}

// reload is a disk with these files, whose log is opened.
func reload(t *testing.T, l []api.File) *bench {
	t.Helper()
	d, e := files.Load(1000000, l)
	is(t, "Load", e, api.OK)
	w, e := wal.Open(d)
	is(t, "wal.Open", e, api.OK)
	return &bench{t, d, w}
}

// TestCut: a log, in one segment or over two, that is cut at each place.
func TestCut(t *testing.T) {
	for _, room := range []int{1000, 150} {
		b, from := kinds(t, room)
		all := b.d.Files()
		opened := 0
		for place := from; place <= b.w.End(); place++ {
			var l []api.File
			for k, f := range all {
				if begin := (k + 1) * first; place >= begin {
					f.Bytes = f.Bytes[:min(len(f.Bytes), place-begin)]
					l = append(l, f)
				}
			}
			if readAll(t, reload(t, l), from, place%3*40) {
				opened++
			}
		}
		if opened < 200 {
			t.Errorf("%d were opened", opened)
		}
	}
}

// TestSpoilt: the same, with each byte changed.
func TestSpoilt(t *testing.T) {
	for _, room := range []int{1000, 150} {
		b, from := kinds(t, room)
		opened := 0
		for place := from; place < b.w.End(); place++ {
			for _, by := range []byte{1, 0x80, 0xff} {
				l := b.d.Files()
				k := place/first - 1
				bytes := []byte(l[k].Bytes)
				if place%first >= len(bytes) {
					continue
				}
				bytes[place%first] ^= by
				l[k].Bytes = string(bytes)
				if readAll(t, reload(t, l), from, place%3*40) {
					opened++
				}
			}
		}
		if opened < 600 {
			t.Errorf("%d were opened", opened)
		}
	}
}

// TestSpoiltRecords: records whose bytes were changed ahead of being framed: the log is right, what stands in it is not.
func TestSpoiltRecords(t *testing.T) {
	b, from := kinds(t, 1000)
	var all []string
	for _, s := range b.w.Scan(from) {
		all = append(all, s)
	}
	for i, s := range all {
		for place := range len(s) {
			for _, by := range []byte{1, 2, 3, 4, 8, 0x80, 0xff} {
				bytes := []byte(s)
				bytes[place] ^= by
				c := begun(t)
				for k, other := range all {
					if k == i {
						other = string(bytes)
					}
					c.raw(other)
				}
				c.flush()
				readAll(t, c, first, place%3*40)
			}
		}
		// Left out, or told twice.
		for _, times := range []int{0, 2} {
			c := begun(t)
			for k, other := range all {
				n := 1
				if k == i {
					n = times
				}
				for range n {
					c.raw(other)
				}
			}
			c.flush()
			readAll(t, c, first, 40)
		}
	}
}

// TestAnyBytes: segments of random bytes, of random frames, and of frames with noughts between.
func TestAnyBytes(t *testing.T) {
	opened := 0
	for seed := range int64(300) {
		r := rand.New(rand.NewSource(seed))
		var l []api.File
		for k := 1; k <= 3; k++ {
			var bytes strings.Builder
			for bytes.Len() < 7000 {
				switch n := r.Intn(60); {
				case k == 1 && bytes.Len() == 0:
					f, _ := code.Frame(payload(t, checkpoint(one())))
					bytes.WriteString(f)
				case n < 50:
					f, _ := code.Frame(payload(t, []api.Rec{prepare(1, "w"), release(5), checkpoint(), create(1, table(3, "v", 2)), begin(r.Intn(1000) + 1)}[n%5]))
					bytes.WriteString(f)
				case n < 58:
					f, _ := code.Frame(strings.Repeat("b", 1+r.Intn(30)))
					bytes.WriteString(f)
				default:
					for range r.Intn(50) {
						bytes.WriteByte(byte(r.Intn(256)))
					}
				}
			}
			f := api.File{Name: fmt.Sprintf("wal.%06d", k), Bytes: bytes.String()}
			if len(f.Bytes) < first && r.Intn(4) > 0 {
				f.Bytes += strings.Repeat("\x00", first-len(f.Bytes))
			}
			l = append(l, f)
		}
		if readAll(t, reload(t, l), first, 100) {
			opened++
		}
	}
	if opened < 200 {
		t.Errorf("%d were opened", opened)
	}
}

// TestNoughtsBetween: segments that were filled up with noughts though there was room: a place within the room stands for nothing, the one behind the last record for the next segment's beginning, whatever would fit there.
func TestNoughtsBetween(t *testing.T) {
	frame := func(r api.Rec) string {
		f, _ := code.Frame(payload(t, r))
		return f
	}
	noughts := func(s string) string { return s + strings.Repeat("\x00", first-len(s)) }
	head := frame(checkpoint(one())) + frame(begin(1))
	change, last := frame(insert(1, 1, 5)), frame(commit(1))
	b := reload(t, []api.File{{Name: "wal.000001", Bytes: noughts(head)}, {Name: "wal.000002", Bytes: noughts("")}, {Name: "wal.000003", Bytes: noughts(change)}, {Name: "wal.000004", Bytes: noughts(last)}, {Name: "wal.000005", Bytes: frame(empty(2, 1))}})
	for _, limit := range limits {
		readAll(t, b, first, limit)
		x := b.open(0, first, limit)
		steps(t, x, "", "")
		if x.Position() != 4*first {
			t.Errorf("Position: %d", x.Position())
		}
		l, e := x.Step()
		if words(l) != "begin 1, t 1.1, +1(5), commit 1" || e != api.OK || endOf(t, l[3]) != 4*first+len(last) {
			t.Errorf("Step: %s, %d", words(l), e)
		}
		steps(t, x, "begin 2, t 1.1, empty 1, commit 2", "!200")
	}
	// Confirmed between the commit's end and the next segment: it is told no more.
	steps(t, b.open(4*first+len(last), first, 0), "", "", "", "begin 2, t 1.1, empty 1, commit 2", "!200")
	steps(t, b.open(4*first+len(last)-1, first, 0), "", "", "begin 1, t 1.1, +1(5), commit 1", "begin 2, t 1.1, empty 1, commit 2", "!200")
}

// TestSpoiltUnderneath: somebody changes the log's bytes, or takes them away, while a decoder reads it: whatever it answers, each call ends, and an error stays.
func TestSpoiltUnderneath(t *testing.T) {
	for n := range 25 {
		for _, do := range []func(d *files.Disk){
			func(d *files.Disk) { d.Truncate("wal.000001", 0) },
			func(d *files.Disk) { d.Truncate("wal.000001", 100) },
			func(d *files.Disk) { d.Remove("wal.000001") },
			func(d *files.Disk) {
				d.Truncate("wal.000001", 0)
				d.Append("wal.000001", strings.Repeat("\x01", first))
			},
			func(d *files.Disk) { d.Truncate("wal.000001", 0); d.Append("wal.000001", strings.Repeat("\x00", 500)) },
		} {
			b, from := kinds(t, 8192)
			x := b.open(0, from, 40)
			for range n {
				x.Step()
			}
			do(b.d)
			var last api.Errno
			for range 30 {
				_, e := x.Step()
				if last != api.OK && last != api.ErrDecodeEnd && e != last {
					t.Fatalf("Step: %d behind %d", e, last)
				}
				last = e
				x.Ahead(2)
				x.Position()
				x.Restart(1 << 40)
				x.Counts()
			}
		}
	}
}
