package copying_test

import (
	"fmt"
	"runtime"
	"slices"
	"strings"
	"sync"
	"testing"
	"time"
	"unsafe"

	"confluence/api"
	"confluence/copying"
)

// lent is a text in memory that is written over by the function beside it.
func lent(s string) (string, func()) {
	b := []byte(s)
	return unsafe.String(unsafe.SliceData(b), len(b)), func() {
		for i := range b {
			b[i] = 0xaa
		}
	}
}

// lentPublication is the same one, whose texts are written over.
func lentPublication(p api.Publication) (api.Publication, func()) {
	var spoils []func()
	lends := func(s *string) {
		text, spoil := lent(*s)
		*s = text
		spoils = append(spoils, spoil)
	}
	lends(&p.Name)
	p.Tables = slices.Clone(p.Tables)
	for i := range p.Tables {
		x := &p.Tables[i]
		lends(&x.Table)
		lends(&x.Filter)
		x.Columns = slices.Clone(x.Columns)
		for at := range x.Columns {
			lends(&x.Columns[at])
		}
	}
	return p, func() {
		for _, spoil := range spoils {
			spoil()
		}
	}
}

// TestPublicationIsNotKept: a publication is not written into, nor the room behind its lists; and what is told is its own.
func TestPublicationIsNotKept(t *testing.T) {
	k := newDesk(t, r(1, "a"), r(2, "b"), r(3, "c"))
	k.create("u", 1, "n i?", "id t", "more t?")
	k.put("u", r(1, "x", "y"))
	p := pub(some("u", "n = 1 and more <> 'z'", "more", "none"), some("t", "id > 1", "id", "name"))
	columns := append(make([]string, 0, 9), "more", "none")
	tables := append(make([]api.Published, 0, 8), p.Tables...)
	tables[0].Columns = columns
	p.Tables = tables
	before := fmt.Sprint(p, tables[:8], columns[:9])
	want := "from u.2.1(id*, more) 2('x', 'y') t.1.1(id*, name) 1(2, 'b') 1(3, 'c') to"
	k.exports(p, want)
	k.is("the publication and the room behind it", fmt.Sprint(p, tables[:8], columns[:9]), before)

	q, spoil := lentPublication(p)
	l, lsn, e := copying.Export(k.s, q)
	spoil()
	k.ok(e)
	k.is("what was told", words(l, lsn), want)
	k.exports(p, want)
}

// TestMessagesAreNew: what comes out shares nothing with what a second call tells, nor with the store.
func TestMessagesAreNew(t *testing.T) {
	k := newDesk(t, r(1, "a"), r(2, "b"))
	l, lsn, _ := copying.Export(k.s, all("t"))
	m, _, _ := copying.Export(k.s, all("t"))
	for i := range l[:cap(l)] {
		l[:cap(l)][i] = "written over"
	}
	for i, s := range m {
		if i < len(l) && unsafe.StringData(s) == unsafe.StringData(l[i]) {
			t.Errorf("message %d is shared", i)
		}
	}
	want := "from t.1.1(id*, name) 1(1, 'a') 1(2, 'b') to"
	k.is("what a second call told", words(m, lsn), want)
	k.exports(all("t"), want)
}

// TestCopyIsNotKept: a list of messages is not written into, nor the room behind it; their memory may be written over as soon as they are taken.
func TestCopyIsNotKept(t *testing.T) {
	k := twoTables(t)
	texts := laid(t, whole(head(nine()), row(9, 1, "some text"), row(9, 2, full), head(eight()), row(8, "a key", 1), row(8, "another", nil))...)
	l := make([]string, 0, 20)
	var spoils []func()
	for _, s := range texts {
		text, spoil := lent(s)
		l, spoils = append(l, text), append(spoils, spoil)
	}
	n, e := copying.Import(k.s, "pub", l)
	k.ok(e)
	if n != 4 || !slices.Equal(l, texts) || slices.ContainsFunc(l[len(l):20], func(s string) bool { return s != "" }) {
		t.Errorf("%d; behind Import the list is %q", n, l[:20])
	}
	for _, spoil := range spoils {
		spoil()
	}
	holds := func() {
		t.Helper()
		k.has("t", "(1, 'some text') (2, '"+full+"')")
		k.has("u", "('a key', 1) ('another', null)")
		k.is("the origin", k.s.Origin("pub"), 9000)
	}
	holds()
	k.crash()
	holds()
}

// TestRefusedIsNotKept: also of what is refused the list is as it was.
func TestRefusedIsNotKept(t *testing.T) {
	for _, m := range [][]api.Message{whole(row(9, 1, "a")), whole(head(told(9, "none", "id i"))), copyOfTwo()} {
		k := twoTables(t)
		k.put("t", r(1, "a"))
		texts := laid(t, m...)
		l := append(make([]string, 0, 20), texts...)
		if n, e := copying.Import(k.s, "pub", l); n != 0 || e < api.ErrCopyForm || e > api.ErrCopyThere {
			t.Errorf("Import: %d, %d", n, e)
		}
		if !slices.Equal(l, texts) || slices.ContainsFunc(l[len(l):20], func(s string) bool { return s != "" }) {
			t.Errorf("behind Import the list is %q", l[:20])
		}
	}
}

// running is how many goroutines there are, when those have gone that are about to.
func running(atMost int) int {
	for range 200 {
		if runtime.NumGoroutine() <= atMost {
			break
		}
		time.Sleep(time.Millisecond)
	}
	return runtime.NumGoroutine()
}

// TestNoGoroutines: none is left behind a call, whatever it answered.
func TestNoGoroutines(t *testing.T) {
	k := bare(t)
	var names []string
	for i := range 8 {
		name := fmt.Sprint("t", i)
		k.create(name, 0, "id i")
		x := k.begins()
		for n := range 300 * (i % 3) {
			k.ok(k.s.Insert(x, name, r(n)))
		}
		_, e := k.s.Commit(x)
		k.ok(e)
		names = append(names, name)
	}
	before := running(0)
	for range 20 {
		l, _, e := copying.Export(k.s, all(names...))
		k.ok(e)
		copying.Export(k.s, all("t1", "t1"))
		copying.Export(k.s, all("none"))
		copying.Import(k.s, "pub", l)
		copying.Import(k.s, "pub", l[1:])
	}
	if after := running(before); after > before {
		t.Errorf("%d goroutines are left", after-before)
	}
	k.ok(k.d.FailSync(1))
	if _, e := k.s.DropTable("t1"); e != api.ErrStoreDoubt {
		t.Fatalf("DropTable: %d", e)
	}
	for range 20 {
		k.exportsNot(all(names...), api.ErrStoreDoubt)
	}
	if after := running(before); after > before {
		t.Errorf("%d goroutines are left by a store in doubt", after-before)
	}
}

// TestAtOneTime: stores of their own, each in a goroutine, do not disturb one another.
func TestAtOneTime(t *testing.T) {
	var done sync.WaitGroup
	for n := range 8 {
		k, x := newDesk(t, r(n, "a"), r(100+n, "b")), newDesk(t)
		done.Go(func() {
			for i := range 30 {
				l, lsn, e := copying.Export(k.s, all("none", "t"))
				n, f := copying.Import(x.s, "pub", l)
				_, g := x.s.EmptyTable("t")
				x.is("a copy", fmt.Sprint(n, e, f, g, x.s.Origin("pub")), fmt.Sprint(2+i, 0, 0, 0, lsn))
				k.put("t", r(1000+i, fmt.Sprint(n)))
			}
		})
	}
	done.Wait()
}

// TestFromManyReaders: one store that is told by several at a time: nothing is changed by that, so each tells the same.
func TestFromManyReaders(t *testing.T) {
	k := newDesk(t)
	k.create("u", 1, "n i?", "id t")
	x := k.begins()
	for i := range 500 {
		k.ok(k.s.Insert(x, "t", r(i, fmt.Sprint(i))), k.s.Insert(x, "u", r(i, fmt.Sprint(i))))
	}
	_, e := k.s.Commit(x)
	k.ok(e)
	p := pub(some("u", "n % 3 = 1"), some("t", "name like '%7%'", "id"))
	want, lsn, _ := copying.Export(k.s, p)
	var done sync.WaitGroup
	for range 6 {
		done.Go(func() {
			l, at, e := copying.Export(k.s, p)
			if !slices.Equal(l, want) || at != lsn || e != api.OK {
				t.Errorf("%s, %d, %d", words(l, at), at, e)
			}
		})
	}
	done.Wait()
}

// TestGreat: many rows in little time, of which some tables have many and some have none.
func TestGreat(t *testing.T) {
	k := newDesk(t)
	x := k.begins()
	const many = 20000
	for i := range many {
		k.ok(k.s.Insert(x, "t", r((i*7919)%many, "a")))
	}
	k.create("u", 0, "id i", "name t?")
	_, e := k.s.Commit(x)
	k.ok(e)
	l, lsn, e := copying.Export(k.s, all("u", "t", "none"))
	k.ok(e)
	k.is("how many messages", len(l), many+4)
	y := newDesk(t)
	y.create("u", 0, "id i", "name t?")
	n, e := copying.Import(y.s, "pub", l)
	y.ok(e)
	y.is("how many rows", []int{n, y.s.Origin("pub")}, []int{many, lsn})
	y.is("the rows", y.rows("t") == k.rows("t") && strings.Count(y.rows("t"), "(") == many, true)
	if _, e := copying.Import(y.s, "pub", slices.Concat(l[:len(l)-1], l[len(l)-2:])); e != api.ErrCopyForm {
		t.Errorf("with its last row twice: %d", e)
	}
}
