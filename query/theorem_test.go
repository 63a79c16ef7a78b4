package query_test

import (
	"fmt"
	"testing"

	"confluence/api"
	"confluence/query"
	"confluence/record"
	"confluence/value"
)

// logged are the records from a position on, those that do not last, too.
func (k *desk) logged(from int) []api.Rec {
	k.t.Helper()
	var l []api.Rec
	for {
		s, next, e := k.s.Log().Read(from)
		if e == api.ErrWalEnd {
			return l
		}
		k.ok(e)
		r, e := record.Decode(s)
		k.ok(e)
		l = append(l, r)
		from = next
	}
}

// changed are the rows of a table by their keys that records have changed, by a kind of records alone, each once.
func changed(t *testing.T, l []api.Rec, kind, key int) map[string]api.Rec {
	t.Helper()
	out := map[string]api.Rec{}
	for _, r := range l {
		row := r.New
		if kind == api.RecDelete {
			row = r.Old
		}
		if r.Kind != kind || len(row) <= key {
			t.Fatalf("logged: %s", record.Print(r))
		}
		if _, is := out[value.Print(row[key])]; is {
			t.Fatalf("twice changed: %s", record.Print(r))
		}
		out[value.Print(row[key])] = r
	}
	return out
}

// keyed are the rows of a table that are seen, by their keys.
func (k *desk) keyed(x int, t api.Table) map[string]string {
	out := map[string]string{}
	for r := range k.s.Scan(x, t.Name) {
		out[value.Print(r[t.Key])] = rowText(r)
	}
	return out
}

// TestQ9JustAsManyRows: a Select changes nothing; what is OK changes as many rows as it says, and no others; what others see stays.
func TestQ9JustAsManyRows(t *testing.T) {
	g := seeded(1291)
	k := newDesk(t)
	some := map[int]int{}
	for range 6000 {
		open := k.s.Active()
		if len(open) == 0 || len(open) < 3 && g.once(20) {
			open = append(open, k.begin())
		}
		x := pick(g, open...)
		if g.once(4) {
			k.commit(x)
			continue
		}
		in := k.s.Tables()[0]
		kind := pick(g, query.Insert, query.Insert, query.Update, query.Delete, query.Select)
		y := g.over(in.Columns).statementOf(kind, "t")
		if kind == query.Delete && y.where == "" {
			y.where = "id > 4"
		}
		from, before, others := k.s.Log().End(), k.keyed(x, in), k.rows(0, "t")
		a := parsed(t, g.spaced(y.pieces())).Run(k.s, x)
		l := k.logged(from)
		if k.rows(0, "t") != others {
			t.Fatalf("%s, in %d: others see %s", y.printed(), x, k.rows(0, "t"))
		}
		if kind == query.Select && len(l) > 0 || kind == query.Select && fmt.Sprint(k.keyed(x, in)) != fmt.Sprint(before) {
			t.Fatalf("%s has changed something", y.printed())
		}
		if kind == query.Select || a.Code != api.OK {
			continue
		}
		by := changed(t, l, map[int]int{query.Insert: api.RecInsert, query.Update: api.RecUpdate, query.Delete: api.RecDelete}[kind], in.Key)
		if len(by) != a.Count || a.Rows != nil || a.Names != nil {
			t.Fatalf("%s: %+v, but %d rows were changed", y.printed(), a, len(by))
		}
		some[kind] += min(a.Count, 1)
		after := k.keyed(x, in)
		for key, row := range after {
			if _, is := by[key]; !is && before[key] != row {
				t.Fatalf("%s has changed the row %s", y.printed(), row)
			}
		}
		if want := len(before) + map[int]int{query.Insert: a.Count, query.Delete: -a.Count}[kind]; len(after) != want {
			t.Fatalf("%s: %d rows, were %d", y.printed(), len(after), len(before))
		}
	}
	if some[query.Insert] < 50 || some[query.Update] < 50 || some[query.Delete] < 50 {
		t.Errorf("only %v had rows", some)
	}
}

// TestQ2DoesTheSame: what is printed, read again, does what the statement does.
func TestQ2DoesTheSame(t *testing.T) {
	g := seeded(1292)
	a, b := newDesk(t), newDesk(t)
	for range 3000 {
		if g.once(5) {
			a.begin()
			b.begin()
		}
		kind := pick(g, query.Insert, query.Update, query.Delete, query.Select, query.Select)
		s := g.spaced(g.over(a.s.Tables()[0].Columns).statementOf(kind, "t").pieces())
		q := parsed(t, s)
		again, e, _ := query.Parse(q.Print())
		if e != api.OK {
			continue
		}
		x := pick(g, append(a.s.Active(), 0)...)
		if got, want := told(t, again.Run(b.s, x)), told(t, q.Run(a.s, x)); got != want {
			t.Fatalf("%q, in %d: %s; printed and read again: %s", s, x, want, got)
		}
		if l := a.s.Active(); len(l) > 10 {
			a.commit(l[0])
			b.commit(l[0])
		}
	}
	if bytesOf(t, a.d) != bytesOf(t, b.d) {
		t.Error("they have logged otherwise")
	}
}
