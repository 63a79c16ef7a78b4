package catalog_test

import (
	"math/rand"
	"slices"
	"testing"

	"confluence/api"
	"confluence/catalog"
)

// holdT9 holds what follows of one catalog.
func holdT9(t *testing.T, c *catalog.Catalog) {
	t.Helper()
	l := c.List()
	numbers, called := map[int]bool{}, map[string]bool{}
	for i, x := range l {
		if e := catalog.Right(x); e != api.OK {
			t.Fatalf("%+v is not right: %d", x, e)
		}
		if numbers[x.ID] || called[x.Name] || x.ID >= c.Next() || i > 0 && x.ID <= l[i-1].ID {
			t.Fatalf("%+v among %+v, next %d", x, l, c.Next())
		}
		numbers[x.ID], called[x.Name] = true, true
	}
	knows(t, "a load of List and Next", load(t, l, c.Next()), l, c.Next())
	knows(t, "a clone", c.Clone(), l, c.Next())
}

func TestT9OneCatalog(t *testing.T) {
	source := rand.New(rand.NewSource(53))
	for range 100 {
		next := pick(source, 1, 1, 2, last-5)
		c, m := load(t, nil, next), &model{tables: map[int]api.Table{}, next: next}
		given := map[int]bool{}
		for range 80 {
			ahead, before := c.Next(), c.List()
			step(t, source, c, m)
			holdT9(t, c)
			for _, x := range c.List() {
				isNew := !slices.ContainsFunc(before, func(y api.Table) bool { return y.ID == x.ID })
				if isNew && (given[x.ID] || x.ID != ahead) {
					t.Fatalf("the number %d is given, the next was %d", x.ID, ahead)
				}
				given[x.ID] = true
			}
			if source.Intn(8) == 0 { // from then on another one that knows the same
				c = load(t, c.List(), c.Next())
			}
		}
	}
}

func TestT9RowsFitBehindWiden(t *testing.T) {
	source := rand.New(rand.NewSource(54))
	some := []api.Value{null, one, word, yes}
	widened := 0
	for range 20000 {
		l := append(columns(1+source.Intn(3)), api.Column{Name: "k", Kind: api.Text})
		key := pick(source, 0, len(l)-1)
		c := load(t, []api.Table{table(1, 1, "t", key, l...)}, 2)
		x, _ := c.Get("t")
		r := make(api.Row, source.Intn(len(l)+2))
		for i := range r {
			r[i] = pick(source, some...)
			if i < len(l) && source.Intn(3) > 0 {
				r[i] = some[l[i].Kind]
			}
		}
		full, e := catalog.Fit(x, r)
		if e != api.OK {
			continue
		}
		for i := range 8 - len(l) {
			x, e = c.Widen("t", api.Column{Name: nameOf(i), Kind: 1 + source.Intn(3), Null: true})
			if e != api.OK {
				t.Fatalf("Widen: %d", e)
			}
			widened++
			want := append(slices.Clone(full), make(api.Row, i+1)...)
			wantFit(t, "as it was handed in", x, r, want)
			wantFit(t, "as it was filled up", x, full, want)
		}
	}
	if widened < 1000 {
		t.Errorf("only %d times", widened)
	}
}
