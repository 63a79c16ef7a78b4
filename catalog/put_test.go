package catalog_test

import (
	"slices"
	"testing"

	"confluence/api"
	"confluence/catalog"
)

func TestT6PutTheNext(t *testing.T) {
	c := catalog.New()
	var l []api.Table
	for i := 1; i <= 16; i++ {
		x := table(i, last+1-i, nameOf(i), 1, api.Column{Name: "b", Kind: api.Bool}, id)
		is(t, "Put", c.Put(x), api.OK)
		l = append(l, x)
		knows(t, "behind Put", c, l, i+1)
	}
	is(t, "a seventeenth", c.Put(plain(17, "more")), api.ErrTableMany)
	is(t, "a seventeenth, and the name is there", c.Put(plain(17, "t05")), api.ErrTableThere)
	is(t, "a seventeenth that is not the next", c.Put(plain(18, "t05")), api.ErrTableNone)
	is(t, "a seventeenth that is not right", c.Put(plain(18, "T")), api.ErrTableName)
	knows(t, "still sixteen", c, l, 17)
	is(t, "one that is there, among sixteen", c.Put(plain(16, "more")), api.OK)
	l[15] = plain(16, "more")
	knows(t, "it is as it was told", c, l, 17)
}

func TestT6PutOneThatIsThere(t *testing.T) {
	for k := range 4 {
		for _, x := range []api.Table{
			table(k+1, 1, nameOf(k+1), 0, columns(2)...), // as it was
			table(k+1, 9, nameOf(k+1), 0, columns(8)...),
			table(k+1, last, nameOf(k+1), 1, label, id),
			table(k+1, 1, "other", 0, id),
		} {
			l := plains(4)
			c := load(t, l, 9)
			is(t, "Put", c.Put(x), api.OK)
			l[k] = x
			knows(t, "behind Put", c, l, 9)
			if x.Name != nameOf(k+1) {
				y, e := c.Get(nameOf(k + 1))
				refused(t, "the old name", y, e, api.ErrTableNone)
				y, e = c.Create(nameOf(k+1), columns(1), 0)
				told(t, "the old name is free", y, e, table(9, 1, nameOf(k+1), 0, columns(1)...), api.OK)
			}
		}
	}
	c := load(t, []api.Table{table(1, 5, "t", 0, columns(8)...)}, 2)
	is(t, "a version less, columns less", c.Put(table(1, 4, "t", 0, id)), api.OK)
	knows(t, "it is as it was told", c, []api.Table{table(1, 4, "t", 0, id)}, 2)
}

func TestT6PutRefuses(t *testing.T) {
	l := []api.Table{plain(1, "a"), plain(3, "b"), plain(4, "c")}
	c := load(t, l, 6)
	for _, x := range []struct {
		what string
		t    api.Table
		want api.Errno
	}{
		{"nothing", api.Table{}, api.ErrArg},
		{"number nought", plain(0, "x"), api.ErrArg},
		{"a number that is none", plain(last+1, "x"), api.ErrArg},
		{"version nought", table(1, 0, "x", 0, id), api.ErrArg},
		{"no version", table(1, last+1, "x", 0, id), api.ErrArg},
		{"no name, and not the next", plain(9, "X"), api.ErrTableName},
		{"no columns", table(1, 1, "b", 0), api.ErrColumnMany},
		{"nine columns", table(6, 1, "x", 0, columns(9)...), api.ErrColumnMany},
		{"a column twice", table(6, 1, "x", 0, id, id), api.ErrColumnThere},
		{"a column's name, and the name is there", table(6, 1, "a", 0, id, api.Column{Name: "B", Kind: api.Int}), api.ErrTableName},
		{"no kind", table(9, 1, "a", 0, id, api.Column{Name: "b"}), api.ErrArg},
		{"no key, and not the next", table(9, 1, "a", 1, id), api.ErrColumnKey},
		{"another one has the name", plain(1, "b"), api.ErrTableThere},
		{"another one has it, the other way round", plain(4, "a"), api.ErrTableThere},
		{"the next, and the name is there", plain(6, "b"), api.ErrTableThere},
		{"a gap", plain(2, "x"), api.ErrTableNone},
		{"a gap behind the last one", plain(5, "x"), api.ErrTableNone},
		{"a gap, and the name is there", plain(2, "a"), api.ErrTableNone},
		{"behind the next", plain(7, "x"), api.ErrTableNone},
		{"behind the next, and the name is there", plain(7, "a"), api.ErrTableNone},
		{"the last number", plain(last, "x"), api.ErrTableNone},
	} {
		is(t, x.what, c.Put(x.t), x.want)
		knows(t, x.what, c, l, 6)
	}
	is(t, "the next", c.Put(plain(6, "x")), api.OK)
	knows(t, "in the end", c, append(slices.Clone(l), plain(6, "x")), 7)
}

func TestT6LastNumber(t *testing.T) {
	c := load(t, nil, last)
	is(t, "the last number", c.Put(plain(last, "t")), api.OK)
	knows(t, "behind it", c, []api.Table{plain(last, "t")}, last+1)
	is(t, "again", c.Put(plain(last, "u")), api.OK)
	is(t, "no number", c.Put(plain(last+1, "v")), api.ErrArg)
	knows(t, "behind that", c, []api.Table{plain(last, "u")}, last+1)
	if _, e := c.Drop("u"); e != api.OK {
		t.Fatalf("Drop: %d", e)
	}
	is(t, "it is given", c.Put(plain(last, "u")), api.ErrTableNone)
	knows(t, "in the end", c, nil, last+1)
}

func TestT6DroppedOnesStayGone(t *testing.T) {
	c := load(t, plains(3), 4)
	for i := 1; i <= 3; i++ {
		if _, e := c.Drop(nameOf(i)); e != api.OK {
			t.Fatalf("Drop: %d", e)
		}
		is(t, "its number again", c.Put(plain(i, nameOf(i))), api.ErrTableNone)
	}
	is(t, "the next", c.Put(plain(4, "t03")), api.OK)
	knows(t, "in the end", c, []api.Table{plain(4, "t03")}, 5)
}

func TestT6Names(t *testing.T) {
	c := catalog.New()
	is(t, "the first", c.Put(plain(1, "a")), api.OK)
	for _, s := range names {
		is(t, "the name "+s, c.Put(plain(1, s)), api.OK)
	}
	for _, s := range noNames {
		is(t, "no name", c.Put(plain(1, s)), api.ErrTableName)
		is(t, "no name for the next", c.Put(plain(2, s)), api.ErrTableName)
	}
	knows(t, "in the end", c, []api.Table{plain(1, names[len(names)-1])}, 2)
}
