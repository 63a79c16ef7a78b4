package decode_test

import (
	"fmt"
	"math/rand"
	"reflect"
	"slices"
	"sync"
	"testing"

	"confluence/api"
	"confluence/decode"
	"confluence/store"
)

// roomy is a publication whose lists have room behind them, in which something stands; memory tells all of it.
func roomy() (p api.Publication, memory func() []any) {
	columns := []string{"n1", "s3", "mine", "mine"}
	tables := []api.Published{{Table: "t", Kinds: 15}, {Table: "u", Kinds: 7, Columns: columns[:2], Filter: "n1 > 3"}, {Table: "v", Kinds: 9, Columns: []string{"s2"}}, {Table: "mine", Columns: []string{"mine"}}}
	return api.Publication{Name: "p", Tables: tables[:3]}, func() []any { return []any{columns, tables} }
}

// spoil writes over a list and over the room behind it.
func spoil(l []string) {
	l = l[:cap(l)]
	for i := range l {
		l[i] = "spoilt"
	}
}

// TestHandedIn: the slot's lists are neither written into, nor their room, nor kept.
func TestHandedIn(t *testing.T) {
	w := writerOf(t, rand.New(rand.NewSource(1)), 0)
	for range 300 {
		w.write()
	}
	w.flush()
	x := slotAt(0, w.from)
	x.Publication = picky()
	want := whole(t, w.opens(x, never))
	if len(want) < 20 {
		t.Fatalf("told %d", len(want))
	}
	for _, limit := range limits {
		p, memory := roomy()
		x.Publication = p
		d := w.opens(x, limit)
		got, _ := d.Ahead(50)
		if _, untouched := roomy(); !reflect.DeepEqual(memory(), untouched()) {
			t.Fatalf("the memory is %v now", memory())
		}
		for i := range p.Tables {
			spoil(p.Tables[i].Columns)
			p.Tables[i] = api.Published{Table: "spoilt"}
		}
		if got = append(got, whole(t, d)...); !slices.Equal(got, want) {
			t.Errorf("limit %d: told %s, want %s", limit, words(got), words(want))
		}
	}
	// Refused ones, too.
	p, memory := roomy()
	x.Publication = p
	for _, restart := range []int{0, w.from, w.from + 1} {
		for _, limit := range []int{-1, 0} {
			x.Restart = restart
			decode.Open(w.w, w.d, x, limit)
		}
	}
	if _, untouched := roomy(); !reflect.DeepEqual(memory(), untouched()) {
		t.Fatalf("the memory is %v now", memory())
	}
}

// TestComesOut: what came out is written over, with its room: nothing that comes later, and nothing that came earlier, hangs on it.
func TestComesOut(t *testing.T) {
	w := writerOf(t, rand.New(rand.NewSource(2)), 0)
	for range 300 {
		w.write()
	}
	w.flush()
	x := slotAt(0, w.from)
	want := whole(t, w.opens(x, never))
	for _, limit := range limits {
		for n := range 5 {
			d := w.opens(x, limit)
			var got []string
			var kept [][]string
			for {
				var l []string
				var e api.Errno
				if n == 0 {
					l, e = d.Step()
				} else {
					l, e = d.Ahead(n * n)
				}
				if e != api.OK {
					break
				}
				got = append(got, l...)
				if len(kept) == 0 || len(got)%2 == 0 {
					kept = append(kept, l)
					_ = append(l, "mine")
				} else {
					spoil(l)
				}
			}
			if !slices.Equal(got, want) {
				t.Errorf("limit %d: told %s, want %s", limit, words(got), words(want))
			}
			for _, l := range kept {
				if slices.Contains(l, "spoilt") || slices.Contains(l, "mine") {
					t.Errorf("what came out earlier is %q", l)
				}
			}
		}
	}
}

// TestSideBySide: decoders of one log, with names, publications, limits and places of their own, each at its own pace: they do not disturb one another.
func TestSideBySide(t *testing.T) {
	w := writerOf(t, rand.New(rand.NewSource(3)), 0)
	for range 300 {
		w.write()
	}
	w.flush()
	type reader struct {
		d    *decode.Decoder
		want []string
		got  []string
	}
	var all []*reader
	for i, limit := range limits {
		for k := range 2 {
			x := slotAt(k*(w.from+2000), w.from)
			x.Name = fmt.Sprint("a", 2*i+k)
			if i%2 == 0 {
				x.Publication = picky()
			}
			want := whole(t, w.opens(x, never))
			all = append(all, &reader{d: w.opens(x, limit), want: want})
		}
	}
	r := rand.New(rand.NewSource(4))
	for range 3000 {
		x := all[r.Intn(len(all))]
		var l []string
		if r.Intn(2) == 0 {
			l, _ = x.d.Step()
		} else {
			l, _ = x.d.Ahead(1 + r.Intn(3))
		}
		x.got = append(x.got, l...)
	}
	for i, x := range all {
		if got := append(x.got, whole(t, x.d)...); !slices.Equal(got, x.want) {
			t.Errorf("%d: told %s, want %s", i, words(got), words(x.want))
		}
	}
}

// TestOneIsWrong: of two decoders of one log one has come to an error: the other one reads on.
func TestOneIsWrong(t *testing.T) {
	b := laid(t, checkpoint(one()), begin(1), insert(1, 7, 5), commit(1), begin(2), insert(2, 1, 6), commit(2))
	x := b.open(0, first, 0)
	nothing(t, x, 2)
	steps(t, x, "!201")
	y := slotAt(first+200, first)
	_, end, _ := b.w.Read(x.Position())
	y.Name, y.Confirmed = "b", end
	z := b.opens(y, 0)
	nothing(t, z, 5)
	steps(t, x, "!201")
	steps(t, z, "begin 2, t 1.1, +1(6), commit 2", "!200")
	steps(t, x, "!201")
}

// TestSameName: another decoder of the same name takes the files of the first one away: that one's calls end, and say so.
func TestSameName(t *testing.T) {
	b := laid(t, checkpoint(one()), begin(1), insert(1, 1, 5), insert(1, 1, 6), commit(1))
	x := b.open(0, first, 0)
	nothing(t, x, 3)
	y := b.open(0, first, 0)
	b.clean()
	steps(t, x, fmt.Sprint("!", int(api.ErrSpillNone)))
	steps(t, y, "", "", "", "begin 1, t 1.1, +1(5), +1(6), commit 1", "!200")
}

// TestAtOnce: decoders of logs of their own are used by several goroutines at a time.
func TestAtOnce(t *testing.T) {
	var group sync.WaitGroup
	var told [8][]string
	for i := range told {
		b := busy(t)
		x := b.open(0, first, 40*i)
		group.Go(func() {
			for {
				l, e := x.Ahead(1 + i)
				if e != api.OK {
					return
				}
				told[i] = append(told[i], l...)
			}
		})
	}
	group.Wait()
	for i, l := range told {
		if len(l) == 0 || !slices.Equal(l, told[0]) {
			t.Errorf("number %d told %s", i, words(l))
		}
	}
}

// TestAsksNoDisk: Position, Restart and Counts answer of a dead disk, too, and change nothing.
func TestAsksNoDisk(t *testing.T) {
	b := busy(t)
	x := b.open(0, first, 40)
	nothing(t, x, 2)
	x.Ahead(10)
	was := standingOf(b, x)
	kill(t, b.d)
	for range 3 {
		if got := standingOf(b, x); got != was {
			t.Errorf("what is said is %+v, was %+v", got, was)
		}
	}
	revive(t, b.d)
	if got := standingOf(b, x); got != was {
		t.Errorf("what is said is %+v, was %+v", got, was)
	}
	if l := whole(t, x); len(ends(l)) != 3 {
		t.Errorf("told %s", words(l))
	}
}

// TestStoreInDoubt: a commit whose Flush failed is not told as long as it does not last; when the store is opened anew it is, if its record was whole.
func TestStoreInDoubt(t *testing.T) {
	w := workOf(t, rand.New(rand.NewSource(1)))
	x, _ := w.s.Begin()
	is(t, "Insert", w.s.Insert(x, "t", api.Row{{Kind: api.Int, N: 1}}), api.OK)
	b := &bench{t, w.d, w.s.Log()}
	d := b.open(0, first, 0)
	is(t, "FailSync", w.d.FailSync(1), api.OK)
	if _, e := w.s.Commit(x); e != api.ErrStoreDoubt {
		t.Fatalf("Commit: %d", e)
	}
	if l := whole(t, d); len(l) > 0 {
		t.Errorf("told %s", words(l))
	}
	s, e := store.Open(w.d)
	is(t, "store.Open", e, api.OK)
	b.w = s.Log()
	want := fmt.Sprintf("begin %d, t 1.1, +1(1 0), commit %d", x, x)
	if got := words(whole(t, b.open(0, first, 0))); got != want {
		t.Errorf("told %s, want %s", got, want)
	}
}
