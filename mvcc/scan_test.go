package mvcc_test

import (
	"fmt"
	"math"
	"slices"
	"strings"
	"testing"

	"confluence/api"
)

// TestH4Order: keys rise by their bytes, whatever order they were written in; only those of the table that are there.
func TestH4Order(t *testing.T) {
	keys := []string{"", "\x00", "\x00\x00", "0", "10", "9", "Z", "a", "a\x00", "aa", "ab", "b", "\x7f", "\x80", "é", "ключ", "\xff", "\xff\xff"}
	slices.Sort(keys)
	d := newDesk(t)
	a := d.begin()
	want := []string{}
	for i := range keys {
		j := (i*7 + 3) % len(keys) // each once: 7 has no divisor in common with 18
		d.is("Insert", a.insert(keys[j], j), "ok")
		d.ok(d.h.Insert(a.s, a.x, 8, keys[j]+"x", row(-1)))
	}
	for i, key := range keys {
		if i%3 == 1 {
			d.is("Delete", a.remove(key), rowText(row(i)))
			continue
		}
		want = append(want, fmt.Sprintf("%q%s", key, rowText(row(i))))
	}
	for range 5 {
		d.is("Scan", a.scan(), strings.Join(want, " "))
	}
	for _, table := range odd {
		d.is("Scan of another table", a.scanOf(table), "")
	}
	d.is("Scan of somebody else", d.begin().scan(), "")
}

// TestH4Many: more keys than a node of anything, in a random order of a map; rising, each once.
func TestH4Many(t *testing.T) {
	const many = 3000
	d := newDesk(t)
	a := d.begin()
	for i := range many {
		d.is("Insert", a.insert(fmt.Sprint(i*37%many), i*37%many), "ok")
	}
	prev, count := "", 0
	for key, r := range d.h.Scan(a.s, a.x, 7) {
		if key <= prev || key != fmt.Sprint(r[0].N) {
			t.Fatalf("%q behind %q, with %v", key, prev, r)
		}
		prev = key
		count++
	}
	if count != many {
		t.Errorf("%d keys", count)
	}
}

// TestH4Seen: a row is told as Get tells it, to each who looks.
func TestH4Seen(t *testing.T) {
	d := newDesk(t)
	d.upon("a", 1)
	d.upon("b", 2, 3)
	d.upon("c", 4, 0)
	old := d.begin()
	d.upon("a", 5)
	d.upon("b", 0)
	d.upon("c", 6)
	open := d.begin()
	open.lays("a", 0)
	open.lays("d", 7)
	p := open.part()
	p.lays("e", 8)
	p.lays("d", 9)
	p.isBack()
	gone := d.begin()
	gone.lays("f", 1)
	gone.aborts()
	d.with(all, 99).insert("g", 10)
	d.with(all, -1).insert("h", 11)
	d.is("an old one", old.scan(), `"a"(1) "b"(3)`)
	d.is("an open one", open.scan(), `"c"(6) "d"(7)`)
	d.is("a part of it that was taken back", p.scan(), `"c"(6) "d"(7)`)
	d.is("one that is aborted", gone.scan(), `"a"(5) "c"(6)`)
	d.is("a new one", d.begin().scan(), `"a"(5) "c"(6)`)
	d.is("who sees what nobody gave", d.with(api.Snapshot{Min: 100, Max: 100}, 0).scan(), `"a"(5) "c"(6) "g"(10)`)
	d.is("who sees nothing", d.with(nothing, 0).scan(), "")
	d.is("who sees nothing but its own", d.with(nothing, open.x).scan(), `"d"(7)`)
	for _, x := range []int{math.MinInt, -1, 0, 99, last, math.MaxInt} {
		d.is("a number that nobody has", d.with(old.s, x).scan(), `"a"(1) "b"(3)`)
	}
}

// TestH4Early: a loop may be left at each place; the next one begins at the first key again.
func TestH4Early(t *testing.T) {
	d := newDesk(t)
	a := d.begin()
	for i := range 40 {
		d.is("Insert", a.insert(fmt.Sprintf("%02d", i), i), "ok")
	}
	it := d.h.Scan(a.s, a.x, 7)
	for stop := range 41 {
		n := 0
		for key := range it {
			if key != fmt.Sprintf("%02d", n) {
				t.Fatalf("left at %d: %q at the place %d", stop, key, n)
			}
			n++
			if n > stop {
				break
			}
		}
		if n != min(stop+1, 40) {
			t.Errorf("left at %d: %d keys", stop, n)
		}
	}
}

// TestH4Within: loops over one iterator within one another, and over others, each stand by themselves.
func TestH4Within(t *testing.T) {
	d := newDesk(t)
	a := d.begin()
	a.lays("a", 1)
	a.lays("b", 2)
	a.lays("c", 3)
	it := d.h.Scan(a.s, a.x, 7)
	got := ""
	for k := range it {
		for l := range it {
			if l > k {
				break
			}
			for m := range d.h.Scan(a.s, a.x, 7) {
				got += k + l + m + " "
			}
		}
		d.is("Get within a loop", a.get(k), rowText(row(int(k[0]-'a')+1)))
	}
	want := ""
	for _, kl := range []string{"aa", "ba", "bb", "ca", "cb", "cc"} {
		want += kl + "a " + kl + "b " + kl + "c "
	}
	d.is("loops within loops", got, want)
}

// TestH4Refused: writes that are refused, within a loop, change nothing of it.
func TestH4Refused(t *testing.T) {
	d := newDesk(t)
	a := d.begin()
	for _, k := range []string{"a", "b", "c"} {
		a.lays(k, 1)
	}
	b := d.begin()
	got := ""
	for k, r := range d.h.Scan(a.s, a.x, 7) {
		got += k + rowText(r)
		d.is("Insert", a.insert(k, 2)+b.insert("c", 2), "thereconflict")
		d.is("Update", a.update(k+"0", 2)+b.remove(k), "noneconflict")
	}
	d.is("Scan", got, "a(1)b(1)c(1)")
	d.versions("nothing was written", 3)
}

// TestH4Later: an iterator reads when it is gone over: what was written, committed, vacuumed and emptied ahead of that is so.
func TestH4Later(t *testing.T) {
	d := newDesk(t)
	a := d.begin()
	own, nobody := d.h.Scan(a.s, a.x, 7), d.h.Scan(all, 0, 7)
	d.is("ahead of all", told(own)+told(nobody), "")
	a.lays("b", 1)
	d.is("behind a write", told(own), `"b"(1)`)
	d.is("behind a write, another one", told(nobody), "")
	a.lays("a", 2)
	d.is("behind another one", told(own), `"a"(2) "b"(1)`)
	a.commits()
	d.is("behind the commit", told(nobody), `"a"(2) "b"(1)`)
	d.upon("b", 5, 0)
	d.is("behind another transaction", told(nobody), `"a"(2)`)
	d.h.Vacuum(nil)
	d.is("behind a Vacuum", told(nobody), `"a"(2)`)
	d.h.Empty(7)
	d.is("behind Empty", told(own)+told(nobody), "")
	d.upon("z", 6)
	d.is("behind a write upon the emptied table", told(nobody), `"z"(6)`)
}

// TestH4Snapshot: the snapshot is as it was when it was handed in, whatever is written into its list since.
func TestH4Snapshot(t *testing.T) {
	d := newDesk(t)
	a, b := d.begin(), d.begin()
	a.lays("a", 1)
	b.lays("b", 2)
	whole := []int{a.x, b.x, 0, 0}
	s := api.Snapshot{Min: 1, Max: 3, Open: whole[:1]} // one that sees b, and not a
	seq := d.h.Scan(s, 0, 7)
	a.commits()
	b.commits()
	d.is("as it was handed in", told(seq), `"b"(2)`)
	whole[0] = b.x
	d.is("its list was written over", told(seq), `"b"(2)`)
	d.is("a new one sees otherwise", told(d.h.Scan(s, 0, 7)), `"a"(1)`)
	s.Open, s.Min, s.Max = append(s.Open, a.x), 0, 0
	d.is("it was given other numbers", told(seq), `"b"(2)`)
	clear(whole)
	n := 0
	for key := range seq {
		whole[0] = b.x
		n++
		d.is("within the loop", key, "b")
	}
	if n != 1 {
		t.Errorf("%d keys", n)
	}
	d.is("and again", told(seq), `"b"(2)`)
	if !slices.Equal(whole, []int{b.x, 0, 0, 0}) {
		t.Errorf("the list that was handed in: %v", whole)
	}
}
