package catalog_test

import (
	"slices"
	"sync"
	"testing"

	"confluence/api"
	"confluence/catalog"
)

var mine = api.Column{Name: "mine", Kind: 9}

// roomy is the same list, with spare room that is written full.
func roomy(l []api.Column) []api.Column {
	out := append(slices.Clone(l), slices.Repeat([]api.Column{mine}, 9)...)
	return out[:len(l)]
}

// untouched holds a roomy list against what was in it.
func untouched(t *testing.T, what string, got, want []api.Column) {
	t.Helper()
	room := got[len(got) : len(want)+9]
	if !slices.Equal(got, want) || slices.ContainsFunc(room, func(c api.Column) bool { return c != mine }) {
		t.Errorf("%s: the list that was handed in is %+v, its room %+v", what, got, room)
	}
}

// spoil writes over a list of columns and all of its room.
func spoil(l []api.Column) {
	l = l[:cap(l)]
	for i := range l {
		l[i] = mine
	}
}

// spoilAll writes over a list of tables, all that is within, and all of its room.
func spoilAll(l []api.Table) {
	l = l[:cap(l)]
	for i := range l {
		spoil(l[i].Columns)
		l[i] = table(77, 7, "mine", 7, mine)
	}
}

// TestHandedInListsAreNotKept: each list is written over at once, ahead of another change.
func TestHandedInListsAreNotKept(t *testing.T) {
	c := catalog.New()
	first, second := table(1, 1, "t", 0, columns(3)...), table(2, 1, "u", 0, columns(2)...)
	l := roomy(columns(3))
	x, e := c.Create("t", l, 0)
	untouched(t, "Create", l, columns(3))
	spoil(l)
	told(t, "what Create told", x, e, first, api.OK)
	knows(t, "behind Create", c, []api.Table{first}, 2)
	l = roomy(columns(2))
	is(t, "Put of the next", c.Put(table(2, 1, "u", 0, l...)), api.OK)
	untouched(t, "Put", l, columns(2))
	spoil(l)
	knows(t, "behind Put of the next", c, []api.Table{first, second}, 3)
	l = roomy([]api.Column{id})
	is(t, "Put of one that is there", c.Put(table(1, 2, "t", 0, l...)), api.OK)
	untouched(t, "Put of one that is there", l, []api.Column{id})
	spoil(l)
	knows(t, "behind that", c, []api.Table{table(1, 2, "t", 0, id), second}, 3)
	l = roomy([]api.Column{id})
	is(t, "Put again", c.Put(table(1, 2, "t", 0, l...)), api.OK)
	if _, e := c.Widen("t", flag); e != api.OK {
		t.Fatalf("Widen: %d", e)
	}
	untouched(t, "Put, and Widen behind it", l, []api.Column{id})
	knows(t, "in the end", c, []api.Table{table(1, 3, "t", 0, id, flag), second}, 3)
}

func TestLoadedListsAreNotKept(t *testing.T) {
	want := plains(3)
	l := append(plains(3), table(77, 7, "room", 7, mine))[:3]
	for i := range l {
		l[i].Columns = roomy(l[i].Columns)
	}
	c, d := load(t, l, 4), load(t, l, 4)
	for i := range l {
		if _, e := c.Widen(l[i].Name, flag); e != api.OK {
			t.Fatalf("Widen: %d", e)
		}
	}
	if _, e := c.Create("more", columns(1), 0); e != api.OK {
		t.Fatalf("Create: %d", e)
	}
	if _, e := c.Drop(nameOf(1)); e != api.OK {
		t.Fatalf("Drop: %d", e)
	}
	knows(t, "another load of the list", d, want, 4)
	for i, x := range l {
		untouched(t, "Load", x.Columns, want[i].Columns)
		if !same(x, want[i]) {
			t.Errorf("the list that was handed in has %+v", x)
		}
	}
	if room := l[:4][3]; room.ID != 77 || room.Name != "room" {
		t.Errorf("its room has %+v", room)
	}
	left := c.List()
	spoilAll(l)
	knows(t, "when the list is written over", d, want, 4)
	knows(t, "the changed one too", c, left, 5)
}

func TestRefusedListsAreNotTouched(t *testing.T) {
	c := load(t, plains(2), 3)
	two := []api.Column{id, id}
	l := roomy(two)
	if _, e := c.Create("u", l, 0); e != api.ErrColumnThere {
		t.Errorf("Create: %d", e)
	}
	is(t, "Put", c.Put(table(1, 1, "u", 0, l...)), api.ErrColumnThere)
	is(t, "Right", catalog.Right(table(1, 1, "u", 0, l...)), api.ErrColumnThere)
	wantNoFit(t, "Fit", table(1, 1, "u", 0, l...), api.Row{one}, api.ErrColumnThere)
	untouched(t, "behind all", l, two)
}

func TestWhatComesOutIsNew(t *testing.T) {
	want := []api.Table{plain(1, "a"), table(2, 2, "t", 0, id, flag), plain(3, "z")}
	c := load(t, []api.Table{plain(1, "a"), table(2, 1, "t", 0, id)}, 3)
	x, e := c.Widen("t", flag)
	told(t, "Widen", x, e, want[1], api.OK)
	spoil(x.Columns)
	knows(t, "what Widen told", c, want[:2], 3)
	l := roomy(columns(2))
	y, e := c.Create("z", l, 0)
	told(t, "Create", y, e, want[2], api.OK)
	spoil(y.Columns)
	untouched(t, "what Create told", l, columns(2))
	knows(t, "what Create told", c, want, 4)
	for _, w := range want {
		x, _ = c.Get(w.Name)
		y, _ = c.ByID(w.ID)
		spoil(x.Columns)
		told(t, "ByID beside Get", y, api.OK, w, api.OK)
		spoil(y.Columns)
	}
	knows(t, "what Get and ByID told", c, want, 4)
	m := c.List()
	spoilAll(c.List())
	if !slices.EqualFunc(m, want, same) {
		t.Errorf("one list beside another: %+v", m)
	}
	spoil(m[0].Columns)
	if !slices.EqualFunc(m[1:], want[1:], same) {
		t.Errorf("one table of a list beside another: %+v", m)
	}
	spoilAll(m)
	knows(t, "what List told", c, want, 4)
	d := c.Clone()
	x, _ = d.Drop("t")
	spoil(x.Columns)
	knows(t, "what Drop told", c, want, 4)
	knows(t, "what is left", d, []api.Table{want[0], want[2]}, 4)
}

func TestRowsAreApart(t *testing.T) {
	x := table(1, 1, "t", 0, roomy([]api.Column{id, label, flag})...)
	given := api.Row{one, word, yes, yes, yes}
	for n := 1; n <= 3; n++ {
		r := given[:n]
		got, e := catalog.Fit(x, r)
		other, f := catalog.Fit(x, r)
		if e != api.OK || f != api.OK {
			t.Fatalf("Fit: %d, %d", e, f)
		}
		got = got[:cap(got)]
		for i := range got {
			got[i] = long
		}
		if !slices.Equal(given, api.Row{one, word, yes, yes, yes}) {
			t.Errorf("the row that was handed in is %v", given)
		}
		if !slices.Equal(other[:n], r) {
			t.Errorf("another answer is %v", other)
		}
	}
	untouched(t, "Fit", x.Columns, []api.Column{id, label, flag})
}

// changes are some of each kind; all of them are taken by a catalog of three plain tables.
var changes = map[string]func(*catalog.Catalog) api.Errno{
	"Create":           func(c *catalog.Catalog) api.Errno { _, e := c.Create("new", columns(3), 0); return e },
	"Drop":             func(c *catalog.Catalog) api.Errno { _, e := c.Drop("t01"); return e },
	"Drop of the last": func(c *catalog.Catalog) api.Errno { _, e := c.Drop("t03"); return e },
	"Widen":            func(c *catalog.Catalog) api.Errno { _, e := c.Widen("t02", flag); return e },
	"Put":              func(c *catalog.Catalog) api.Errno { return c.Put(table(2, 9, "put", 0, id)) },
	"Put of the next":  func(c *catalog.Catalog) api.Errno { return c.Put(plain(4, "put")) },
	"many, one by one": func(c *catalog.Catalog) api.Errno {
		_, a := c.Widen("t01", flag)
		_, b := c.Widen("t01", label)
		_, d := c.Drop("t02")
		_, e := c.Create("t02", columns(8), 0)
		return max(a, b, d, e, c.Put(table(3, 2, "t0", 0, id)))
	},
}

func TestT7Clone(t *testing.T) {
	for what, change := range changes {
		c := load(t, plains(3), 4)
		d := c.Clone()
		knows(t, "a clone", d, plains(3), 4)
		is(t, what, change(d), api.OK)
		knows(t, what+" on the clone", c, plains(3), 4)
		after, next := d.List(), d.Next()
		f := d.Clone()
		knows(t, "a clone of the clone", f, after, next)
		is(t, what, change(c), api.OK)
		knows(t, what+" on the first one", d, after, next)
		knows(t, what+" is the same on both", c, after, next)
		for what, other := range changes {
			g := d.Clone()
			other(g)
			other(c)
			knows(t, what+" on others", d, after, next)
			knows(t, what+" on others, beside a clone", f, after, next)
		}
	}
}

func TestT7CloneOfAnEmptyOne(t *testing.T) {
	c := load(t, nil, last+1)
	knows(t, "a clone", c.Clone(), nil, last+1)
	c = catalog.New()
	d, f := c.Clone(), c.Clone()
	for i, x := range []*catalog.Catalog{c, d, f} {
		y, e := x.Create(nameOf(i), columns(2), 0)
		told(t, "Create", y, e, plain(1, nameOf(i)), api.OK)
	}
	for i, x := range []*catalog.Catalog{c, d, f} {
		knows(t, "each has its own", x, []api.Table{plain(1, nameOf(i))}, 2)
	}
}

// TestT7CloneThatIsRefused: what is undone on one is not undone on others.
func TestT7CloneThatIsRefused(t *testing.T) {
	c := load(t, plains(3), 4)
	d := c.Clone()
	l := d.List()
	for range 3 {
		if _, e := c.Widen("t01", id); e != api.ErrArg {
			t.Errorf("Widen: %d", e)
		}
		if _, e := c.Create("u", nil, 0); e != api.ErrColumnMany {
			t.Errorf("Create: %d", e)
		}
		if _, e := c.Drop("u"); e != api.ErrTableNone {
			t.Errorf("Drop: %d", e)
		}
		is(t, "Put", c.Put(plain(1, "t02")), api.ErrTableThere)
	}
	knows(t, "the first one", c, plains(3), 4)
	knows(t, "the clone", d, plains(3), 4)
	if !slices.EqualFunc(l, plains(3), same) {
		t.Errorf("a list that came out: %+v", l)
	}
}

// TestApartSideBySide: clones and loads are worked on at one time; a race would be found by go test -race.
func TestApartSideBySide(t *testing.T) {
	l := plains(3)
	c := load(t, l, 4)
	var all sync.WaitGroup
	for k := range 8 {
		d := c.Clone()
		if k%2 == 0 {
			d = load(t, l, 4)
		}
		all.Go(func() {
			for _, change := range changes {
				change(d)
			}
		})
	}
	all.Wait()
	knows(t, "the first one", c, plains(3), 4)
}
