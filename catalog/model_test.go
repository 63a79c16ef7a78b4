package catalog_test

import (
	"maps"
	"math/rand"
	"regexp"
	"slices"
	"testing"

	"confluence/api"
	"confluence/catalog"
)

// model is the chapter told over again, as plainly as may be: tables by their numbers, errors in the order in which they are named.
type model struct {
	tables map[int]api.Table
	next   int
}

// cases are asked from the first on: the error of the first one that holds.
type cases []struct {
	holds bool
	e     api.Errno
}

func (l cases) first() api.Errno {
	for _, c := range l {
		if c.holds {
			return c.e
		}
	}
	return api.OK
}

var nameForm = regexp.MustCompile(`\A[a-z][a-z0-9_]{0,15}\z`)

func modelColumns(l []api.Column) api.Errno {
	if len(l) == 0 || len(l) > 8 {
		return api.ErrColumnMany
	}
	seen := map[string]bool{}
	for _, c := range l {
		if e := (cases{{!nameForm.MatchString(c.Name), api.ErrTableName}, {seen[c.Name], api.ErrColumnThere}, {c.Kind < 1 || c.Kind > 3, api.ErrArg}}).first(); e != api.OK {
			return e
		}
		seen[c.Name] = true
	}
	return api.OK
}

func modelKey(l []api.Column, key int) api.Errno {
	for i, c := range l {
		if i == key && c.Kind != api.Bool && !c.Null {
			return api.OK
		}
	}
	return api.ErrColumnKey
}

func modelRight(t api.Table) api.Errno {
	columns, key := modelColumns(t.Columns), modelKey(t.Columns, t.Key)
	return cases{
		{t.ID < 1 || t.ID > last || t.Version < 1 || t.Version > last, api.ErrArg},
		{!nameForm.MatchString(t.Name), api.ErrTableName},
		{columns != api.OK, columns},
		{key != api.OK, key},
	}.first()
}

// named is the number of the table of a name; 0: there is none.
func (m *model) named(name string) int {
	for n, t := range m.tables {
		if t.Name == name {
			return n
		}
	}
	return 0
}

func (m *model) create(name string, l []api.Column, key int) (api.Table, api.Errno) {
	columns, keys := modelColumns(l), modelKey(l, key)
	if e := (cases{
		{!nameForm.MatchString(name), api.ErrTableName},
		{m.named(name) != 0, api.ErrTableThere},
		{len(m.tables) >= 16 || m.next == last+1, api.ErrTableMany},
		{columns != api.OK, columns},
		{keys != api.OK, keys},
	}).first(); e != api.OK {
		return noTable, e
	}
	t := table(m.next, 1, name, key, slices.Clone(l)...)
	m.tables[m.next] = t
	m.next++
	return t, api.OK
}

func (m *model) drop(name string) (api.Table, api.Errno) {
	n := m.named(name)
	t := m.tables[n]
	delete(m.tables, n)
	return t, cases{{n == 0, api.ErrTableNone}}.first()
}

func (m *model) widen(name string, x api.Column) (api.Table, api.Errno) {
	n := m.named(name)
	t := m.tables[n]
	if e := (cases{
		{n == 0, api.ErrTableNone},
		{len(t.Columns) == 8, api.ErrColumnMany},
		{!nameForm.MatchString(x.Name), api.ErrTableName},
		{slices.ContainsFunc(t.Columns, func(c api.Column) bool { return c.Name == x.Name }), api.ErrColumnThere},
		{x.Kind < 1 || x.Kind > 3 || !x.Null || t.Version == last, api.ErrArg},
	}).first(); e != api.OK {
		return noTable, e
	}
	t.Columns = append(slices.Clone(t.Columns), x)
	t.Version++
	m.tables[n] = t
	return t, api.OK
}

func (m *model) put(t api.Table) api.Errno {
	_, there := m.tables[t.ID]
	right, n := modelRight(t), m.named(t.Name)
	e := cases{
		{right != api.OK, right},
		{there && n != 0 && n != t.ID, api.ErrTableThere},
		{!there && t.ID != m.next, api.ErrTableNone},
		{!there && n != 0, api.ErrTableThere},
		{!there && len(m.tables) >= 16, api.ErrTableMany},
	}.first()
	if e == api.OK {
		t.Columns = slices.Clone(t.Columns)
		m.tables[t.ID] = t
		m.next = max(m.next, t.ID+1)
	}
	return e
}

func (m *model) list() []api.Table {
	var l []api.Table
	for _, n := range slices.Sorted(maps.Keys(m.tables)) {
		l = append(l, m.tables[n])
	}
	return l
}

func (m *model) load(l []api.Table, next int) api.Errno {
	m.tables, m.next = map[int]api.Table{}, next
	e := cases{{next < 1 || next > last+1, api.ErrArg}, {len(l) > 16, api.ErrTableMany}}.first()
	above := 0
	for _, t := range l {
		if right := modelRight(t); e == api.OK {
			e = cases{{right != api.OK, right}, {t.ID <= above || t.ID >= next, api.ErrArg}, {m.named(t.Name) != 0, api.ErrTableThere}}.first()
		}
		above = t.ID
		m.tables[t.ID] = t
	}
	return e
}

// Random things: mostly right, and often at an edge.

func pick[T any](source *rand.Rand, l ...T) T { return l[source.Intn(len(l))] }

func randomName(source *rand.Rand) string {
	if source.Intn(12) == 0 {
		return pick(source, noNames...)
	}
	return nameOf(source.Intn(24))
}

func randomColumn(source *rand.Rand) api.Column {
	x := api.Column{Name: nameOf(source.Intn(40)), Kind: 1 + source.Intn(3), Null: source.Intn(3) > 0}
	switch source.Intn(25) {
	case 0:
		x.Name = pick(source, noNames...)
	case 1:
		x.Kind = pick(source, noKinds...)
	}
	return x
}

func randomColumns(source *rand.Rand) []api.Column {
	l := []api.Column{id}
	for range source.Intn(4) {
		l = append(l, randomColumn(source))
	}
	switch source.Intn(12) {
	case 0:
		return l[1:]
	case 1:
		return columns(8)
	case 2:
		return columns(9)
	}
	return l
}

func randomTable(source *rand.Rand, next int) api.Table {
	n := pick(source, next, next, next, next-1, next-2, next-3, next+1, 1+source.Intn(20), last, last+1, 0, -1)
	version := pick(source, 1, 1, 1, 2, 7, last, last-1, 1+source.Intn(last), 1, 1, 1, last+1, 0)
	return table(n, version, randomName(source), randomKey(source), randomColumns(source)...)
}

func randomKey(source *rand.Rand) int { return pick(source, 0, 0, 0, 0, 0, 1, 2, -1, 8) }

func hold(t *testing.T, what string, got api.Table, e api.Errno, want api.Table, f api.Errno) {
	t.Helper()
	if !same(got, want) || e != f {
		t.Fatalf("%s: %+v, %d, want %+v, %d", what, got, e, want, f)
	}
}

// step does the same to a catalog and to the model, and tells what it did.
func step(t *testing.T, source *rand.Rand, c *catalog.Catalog, m *model) (string, api.Errno) {
	t.Helper()
	name := randomName(source)
	if len(m.tables) > 0 && source.Intn(2) == 0 {
		name = pick(source, m.list()...).Name
	}
	switch source.Intn(10) {
	case 0, 1, 2, 3:
		l, key := randomColumns(source), randomKey(source)
		x, e := c.Create(name, l, key)
		y, f := m.create(name, l, key)
		hold(t, "Create", x, e, y, f)
		return "create", e
	case 4:
		if len(m.tables) < 15 && source.Intn(2) == 0 { // so that they become many
			name = "none"
		}
		x, e := c.Drop(name)
		y, f := m.drop(name)
		hold(t, "Drop", x, e, y, f)
		return "drop", e
	case 5, 6:
		w := randomColumn(source)
		x, e := c.Widen(name, w)
		y, f := m.widen(name, w)
		hold(t, "Widen", x, e, y, f)
		return "widen", e
	}
	x := randomTable(source, m.next)
	e, f := c.Put(x), m.put(x)
	hold(t, "Put", x, e, x, f)
	return "put", e
}

// TestModel: whatever is done in whatever order, a catalog answers what the model says, and knows the same.
func TestModel(t *testing.T) {
	source := rand.New(rand.NewSource(51))
	seen := map[string]map[api.Errno]int{"create": {}, "drop": {}, "widen": {}, "put": {}}
	for range 300 {
		l := plains(pick(source, 0, 0, 3, 14, 15, 16))
		next := pick(source, len(l)+1, len(l)+1, len(l)+2, 100, last-20, last-3, last, last+1)
		c, m := load(t, l, next), &model{}
		is(t, "Load", m.load(l, next), api.OK)
		for range 120 {
			what, e := step(t, source, c, m)
			seen[what][e]++
			knows(t, what, c, m.list(), m.next)
		}
	}
	for what, l := range map[string][]api.Errno{
		"create": {api.OK, api.ErrArg, api.ErrTableName, api.ErrTableThere, api.ErrTableMany, api.ErrColumnMany, api.ErrColumnThere, api.ErrColumnKey},
		"drop":   {api.OK, api.ErrTableNone},
		"widen":  {api.OK, api.ErrArg, api.ErrTableName, api.ErrTableNone, api.ErrColumnMany, api.ErrColumnThere},
		"put":    {api.OK, api.ErrArg, api.ErrTableName, api.ErrTableThere, api.ErrTableNone, api.ErrTableMany, api.ErrColumnMany, api.ErrColumnThere, api.ErrColumnKey},
	} {
		for _, e := range l {
			if seen[what][e] < 5 {
				t.Errorf("%s answered %d only %d times", what, e, seen[what][e])
			}
		}
	}
}

// TestModelOfLoad: of any list of tables, Right and Load answer what the model says.
func TestModelOfLoad(t *testing.T) {
	source := rand.New(rand.NewSource(52))
	seen := map[api.Errno]int{}
	for range 30000 {
		l := plains(source.Intn(18))
		for i := range l {
			switch source.Intn(40) {
			case 0:
				l[i] = randomTable(source, i+1)
			case 1:
				l[i].Name = randomName(source)
			}
			is(t, "Right", catalog.Right(l[i]), modelRight(l[i]))
		}
		next := len(l) + 1 + pick(source, 0, 0, 0, 1, 5, -1, -2)
		if source.Intn(10) == 0 {
			next = pick(source, last, last+1, last+2, 0, -1)
		}
		m := &model{}
		want := m.load(l, next)
		c, e := catalog.Load(l, next)
		if e != want || (c == nil) != (e != api.OK) {
			t.Fatalf("Load(%+v, %d) = %d, want %d", l, next, e, want)
		}
		if c != nil {
			knows(t, "Load", c, l, next)
		}
		seen[e]++
	}
	for _, e := range []api.Errno{api.OK, api.ErrArg, api.ErrTableName, api.ErrTableThere, api.ErrTableMany, api.ErrColumnMany, api.ErrColumnThere, api.ErrColumnKey} {
		if seen[e] < 5 {
			t.Errorf("Load answered %d only %d times", e, seen[e])
		}
	}
}
