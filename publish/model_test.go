package publish_test

import (
	"fmt"
	"math/rand"
	"slices"
	"strings"
	"testing"

	"confluence/api"
	"confluence/catalog"
	"confluence/expr"
	"confluence/publish"
)

// model does what U3 to U6 say, word by word; it keeps all that was told of the transaction.
type model struct {
	p        api.Publication
	within   bool
	xid, lsn int
	told     []api.Message
}

// published is the publication's table of a name.
func (m *model) published(name string) (api.Published, bool) {
	i := slices.IndexFunc(m.p.Tables, func(x api.Published) bool { return x.Table == name })
	if i < 0 {
		return api.Published{}, false
	}
	return m.p.Tables[i], true
}

func (m *model) view(t api.Table) (api.Table, bool) {
	x, is := m.published(t.Name)
	if !publicationByRule(m.p) || catalog.Right(t) != api.OK || !is {
		return api.Table{}, false
	}
	if x.Filter != "" {
		e, _, _ := expr.Parse(x.Filter)
		if kind, why := e.Check(t); why != api.OK || kind != api.Bool {
			return api.Table{}, false
		}
	}
	v := api.Table{ID: t.ID, Version: t.Version, Name: t.Name}
	for i, c := range t.Columns {
		if len(x.Columns) == 0 || slices.Contains(x.Columns, c.Name) || i == t.Key {
			v.Columns = append(v.Columns, c)
		}
	}
	v.Key = slices.Index(v.Columns, t.Columns[t.Key])
	return v, true
}

// fits tells whether a whole row fits the filter of its table.
func (m *model) fits(t api.Table, r api.Row) bool {
	x, _ := m.published(t.Name)
	if x.Filter == "" {
		return true
	}
	e, _, _ := expr.Parse(x.Filter)
	v, why := e.Eval(t, r)
	return why == api.OK && v == yes
}

// shown has of a row the view's columns alone.
func shown(t, view api.Table, r api.Row) api.Row {
	var out api.Row
	for i, c := range t.Columns {
		if slices.Contains(view.Columns, c) {
			out = append(out, r[i])
		}
	}
	return out
}

func (m *model) begin(xid, lsn int) api.Errno {
	switch {
	case xid < 1 || xid > last || lsn < 1 || lsn > top:
		return api.ErrArg
	case m.within:
		return api.ErrPublishOrder
	}
	*m = model{p: m.p, within: true, xid: xid, lsn: lsn}
	return api.OK
}

// isChange is what U5 asks of what it is handed.
func isChange(t api.Table, c api.Change) bool {
	if catalog.Right(t) != api.OK {
		return false
	}
	rows, known := map[int][]api.Row{api.RecInsert: {c.New}, api.RecUpdate: {c.Old, c.New}, api.RecDelete: {c.Old}, api.RecEmpty: {}}[c.Kind]
	if !known || c.Table != t.ID {
		return false
	}
	for _, r := range rows {
		if len(r) != len(t.Columns) {
			return false
		}
		if _, e := catalog.Fit(t, r); e != api.OK {
			return false
		}
	}
	return c.Kind != api.RecUpdate || c.Old[t.Key] == c.New[t.Key]
}

func (m *model) change(t api.Table, c api.Change) ([]api.Message, api.Errno) {
	switch {
	case !isChange(t, c):
		return nil, api.ErrArg
	case !m.within:
		return nil, api.ErrPublishOrder
	}
	v, is := m.view(t)
	if !is {
		return nil, api.OK
	}
	x, is := m.row(t, v, c)
	if !is {
		return nil, api.OK
	}
	var l []api.Message
	if len(m.told) == 0 {
		l = append(l, api.Message{Kind: api.MsgBegin, Xid: m.xid, Lsn: m.lsn})
	}
	if !m.knows(v) {
		l = append(l, msgTable(v))
	}
	l = append(l, x)
	m.told = append(m.told, l...)
	return l, api.OK
}

// knows tells whether what was told last of the table is this view.
func (m *model) knows(v api.Table) bool {
	for _, x := range slices.Backward(m.told) {
		if x.Kind == api.MsgTable && x.Tab.ID == v.ID {
			return equalTable(x.Tab, v)
		}
	}
	return false
}

// row is the message of the change itself.
func (m *model) row(t, v api.Table, c api.Change) (api.Message, bool) {
	x, _ := m.published(t.Name)
	deleted := func() api.Message {
		return api.Message{Kind: api.MsgDelete, Table: t.ID, Old: shown(t, v, c.Old)}
	}
	inserted := func() api.Message {
		return api.Message{Kind: api.MsgInsert, Table: t.ID, New: shown(t, v, c.New)}
	}
	switch c.Kind {
	case api.RecInsert:
		if x.Kinds&1 > 0 && m.fits(t, c.New) {
			return inserted(), true
		}
	case api.RecDelete:
		if x.Kinds&4 > 0 && m.fits(t, c.Old) {
			return deleted(), true
		}
	case api.RecEmpty:
		if x.Kinds&8 > 0 {
			return api.Message{Kind: api.MsgEmpty, Table: t.ID}, true
		}
	case api.RecUpdate:
		switch from, to := m.fits(t, c.Old), m.fits(t, c.New); {
		case x.Kinds&2 == 0:
		case from && to:
			return api.Message{Kind: api.MsgUpdate, Table: t.ID, Old: shown(t, v, c.Old), New: shown(t, v, c.New)}, true
		case from:
			return deleted(), true
		case to:
			return inserted(), true
		}
	}
	return api.Message{}, false
}

func (m *model) commit(end int) ([]api.Message, api.Errno) {
	switch {
	case !m.within:
		return nil, api.ErrPublishOrder
	case end < 1 || end > top || end <= m.lsn:
		return nil, api.ErrArg
	}
	m.within = false
	if len(m.told) == 0 {
		return nil, api.OK
	}
	return []api.Message{{Kind: api.MsgCommit, Xid: m.xid, Lsn: m.lsn, End: end}}, api.OK
}

// pair is a publisher and its model, which are asked the same.
type pair struct {
	t        *testing.T
	source   *rand.Rand
	p        *publish.Publisher
	m        *model
	trail    []string
	answered map[string]int
}

func (x *pair) answers(what string, got, want []api.Message, e, f api.Errno) {
	x.t.Helper()
	x.trail = append(x.trail, fmt.Sprintf("%s: %+v %d", what, got, e))
	key := fmt.Sprint(strings.Fields(what)[0], " ", e)
	for _, m := range got {
		key += fmt.Sprint(" ", m.Kind)
	}
	x.answered[key]++
	if e != f || !slices.EqualFunc(got, want, equal) {
		x.t.Fatalf("of %+v, behind %q: %s: %+v, %d, want %+v, %d", x.m.p, x.trail[max(0, len(x.trail)-12):], what, got, e, want, f)
	}
}

var someFilters = []string{"", "", "id > 1", "flag", "name = 'a' or flag", "name is null", "6 / id > 2", "id", "more > 1", "none = 1", "null", "length(name || name) > 1", "case when flag then true end", "name in ('a', null)"}

func somePublication(source *rand.Rand) api.Publication {
	var l []api.Published
	for _, name := range []string{"t", "u", "v"}[:1+source.Intn(3)] {
		x := api.Published{Table: name, Kinds: pick(source, 15, 15, 1+source.Intn(15)), Filter: pick(source, someFilters...)}
		for _, c := range []string{"more", "none", "flag", "id", "name"} {
			if source.Intn(3) == 0 {
				x.Columns = append(x.Columns, c)
			}
		}
		l = append(l, x)
	}
	return pub(l...)
}

func pick[T any](source *rand.Rand, l ...T) T { return l[source.Intn(len(l))] }

// someTable is mostly a right one, of few numbers, versions and shapes.
func someTable(source *rand.Rand) api.Table {
	t := changed(func(t *api.Table) {
		t.ID, t.Version, t.Name = 1+source.Intn(3), 1, pick(source, "t", "t", "u", "v", "w")
	})
	switch source.Intn(10) {
	case 0:
		t.Version = 2
	case 1:
		t.Columns = append(t.Columns, api.Column{Name: "more", Kind: api.Int, Null: true})
	case 2:
		t.Columns[0], t.Columns[1], t.Key = t.Columns[1], t.Columns[0], 1
	case 3:
		t.Columns = t.Columns[:2]
	case 4:
		how := pick(source, func() { t.Key = 2 }, func() { t.ID = 0 }, func() { t.Columns[1].Name = "id" }, func() { t.Version = -1 })
		how()
	}
	return t
}

// someRow is mostly one of the table.
func someRow(source *rand.Rand, t api.Table) api.Row {
	var r api.Row
	for i, c := range t.Columns {
		v := []api.Value{null, number(source.Intn(4)), text(pick(source, "a", "b", "", full)), {Kind: api.Bool, N: source.Intn(2)}}[c.Kind]
		if c.Null && source.Intn(4) == 0 || source.Intn(60) == 0 {
			v = null
		}
		if i == t.Key && c.Kind == api.Int {
			v = number(pick(source, 0, 1, 1, 2, 2, 2))
		}
		r = append(r, v)
	}
	switch source.Intn(40) {
	case 0:
		return r[:len(r)-1]
	case 1:
		return append(r, null)
	}
	return r
}

func (x *pair) someChange(t api.Table) api.Change {
	c := api.Change{Kind: pick(x.source, 3, 3, 4, 4, 4, 5, 14), Table: t.ID, Lsn: x.source.Int(), Xid: x.source.Int()}
	if x.source.Intn(30) == 0 {
		c.Kind = x.source.Intn(17)
	}
	if x.source.Intn(30) == 0 {
		c.Table++
	}
	if c.Kind != api.RecInsert || x.source.Intn(9) == 0 {
		c.Old = someRow(x.source, t)
	}
	if c.Kind != api.RecDelete || x.source.Intn(9) == 0 {
		c.New = someRow(x.source, t)
	}
	return c
}

func (x *pair) step() {
	x.t.Helper()
	switch x.source.Intn(12) {
	case 0:
		xid, lsn := pick(x.source, 1, 2, last, 0, last+1), pick(x.source, 1, 8192, 9000, top, top+1, 0)
		x.answers(fmt.Sprintf("Begin (%d, %d)", xid, lsn), nil, nil, x.p.Begin(xid, lsn), x.m.begin(xid, lsn))
	case 1:
		x.answers("Begin (5, 9000)", nil, nil, x.p.Begin(5, 9000), x.m.begin(5, 9000))
	case 2:
		end := pick(x.source, x.m.lsn, x.m.lsn+1, 0, top, top+1, -1)
		l, e := x.p.Commit(end)
		want, f := x.m.commit(end)
		x.answers(fmt.Sprintf("Commit (%d)", end), read(x.t, l), want, e, f)
	default:
		t := someTable(x.source)
		c := x.someChange(t)
		l, e := x.p.Change(t, c)
		want, f := x.m.change(t, c)
		x.answers(fmt.Sprintf("Change (%+v, %+v)", t, c), read(x.t, l), want, e, f)
		v, is := publish.View(x.m.p, t)
		if w, there := x.m.view(t); is != there || !equalTable(v, w) {
			x.t.Fatalf("View(%+v, %+v) = %+v, %v, want %+v, %v", x.m.p, t, v, is, w, there)
		}
	}
}

func TestModel(t *testing.T) {
	answered := map[string]int{}
	for seed := range 1500 {
		source := rand.New(rand.NewSource(int64(seed)))
		p := somePublication(source)
		made, e := publish.New(p)
		if e != api.OK {
			t.Fatalf("New(%+v): %d", p, e)
		}
		x := &pair{t: t, source: source, p: made, m: &model{p: p}, answered: answered}
		for range 60 {
			x.step()
		}
	}
	for _, what := range []string{"Begin 0", "Begin 1", "Begin 182", "Commit 0", "Commit 0 7", "Commit 1", "Commit 182", "Change 0", "Change 1", "Change 182", "Change 0 3", "Change 0 4", "Change 0 5", "Change 0 6", "Change 0 2 3", "Change 0 2 4", "Change 0 2 5", "Change 0 2 6", "Change 0 1 2 3", "Change 0 1 2 4", "Change 0 1 2 5", "Change 0 1 2 6"} {
		if answered[what] < 100 {
			t.Errorf("%s came %d times alone", what, answered[what])
		}
	}
}
