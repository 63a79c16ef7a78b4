package copying

import (
	"slices"
	"sync"

	"confluence/api"
	"confluence/expr"
	"confluence/publish"
	"confluence/store"
)

// ahead is how many messages of a table may have been read when nobody has taken them yet.
const ahead = 64

// reading is a table of a store that is told.
type reading struct {
	store     *store.Store
	whole     api.Table
	view      api.Table
	places    []int      // of the view's columns among all
	condition *expr.Expr // nil: every row fits
}

// readings are those of the tables that a publication tells, in its order.
func readings(s *store.Store, p api.Publication) []reading {
	var l []reading
	there := s.Tables()
	for _, x := range p.Tables {
		i := slices.IndexFunc(there, func(t api.Table) bool { return t.Name == x.Table })
		if i < 0 {
			continue
		}
		if view, is := publish.View(p, there[i]); is {
			l = append(l, readingOf(s, there[i], view, x.Filter))
		}
	}
	return l
}

// readingOf is that of a table of which there is a view; so its filter can be asked.
func readingOf(s *store.Store, whole, view api.Table, filter string) reading {
	r := reading{store: s, whole: whole, view: view}
	for _, c := range view.Columns {
		r.places = append(r.places, slices.Index(whole.Columns, c))
	}
	if filter != "" {
		r.condition, _, _ = expr.Parse(filter)
	}
	return r
}

// sideBySide is what all readings tell, one behind the other; they are read at one time.
func sideBySide(l []reading) []string {
	var all sync.WaitGroup
	told := make([]chan string, len(l))
	for i, r := range l {
		told[i] = make(chan string, ahead)
		all.Go(func() { r.tell(told[i]) })
	}
	var messages []string
	for _, c := range told {
		for m := range c {
			messages = append(messages, m)
		}
	}
	all.Wait()
	return messages
}

// tell sends the table and each row of it that fits, and closes.
func (r reading) tell(to chan<- string) {
	defer close(to)
	to <- laid(api.Message{Kind: api.MsgTable, Tab: r.view})
	for row := range r.store.Scan(0, r.whole.Name) {
		if r.fits(row) {
			to <- laid(api.Message{Kind: api.MsgInsert, Table: r.view.ID, New: r.shown(row)})
		}
	}
}

func (r reading) fits(row api.Row) bool {
	if r.condition == nil {
		return true
	}
	answer, e := r.condition.Eval(r.whole, row)
	return e == api.OK && answer == api.Value{Kind: api.Bool, N: 1}
}

// shown is what the view has of a row.
func (r reading) shown(row api.Row) api.Row {
	out := make(api.Row, len(r.places))
	for i, place := range r.places {
		out[i] = row[place]
	}
	return out
}

// laid is a message as bytes. What stands in a store makes right ones.
func laid(m api.Message) string {
	s, _ := publish.Encode(m)
	return s
}
