package publish

import (
	"slices"

	"confluence/api"
)

// view is a table as it is published.
type view struct {
	wanted
	whole  api.Table // it is the caller's: a view does not outlive the call that made it
	shown  api.Table // what is told of it; its columns are new memory
	places []int     // of the shown columns among all
}

// viewOf is how a right table is published; false: it is not.
func viewOf(l []wanted, t api.Table) (view, bool) {
	i := slices.IndexFunc(l, func(w wanted) bool { return w.name == t.Name })
	if i < 0 || !l[i].canAsk(t) {
		return view{}, false
	}
	v := view{wanted: l[i], whole: t, shown: t}
	v.shown.Columns = nil
	for i, c := range t.Columns {
		if i == t.Key {
			v.shown.Key = len(v.places)
		}
		if i == t.Key || v.wants(c.Name) {
			v.places = append(v.places, i)
			v.shown.Columns = append(v.shown.Columns, c)
		}
	}
	return v, true
}

// canAsk tells whether the condition can be asked of a table's rows.
func (w wanted) canAsk(t api.Table) bool {
	if w.condition == nil {
		return true
	}
	kind, e := w.condition.Check(t)
	return e == api.OK && kind == api.Bool
}

func (w wanted) wants(column string) bool {
	return len(w.columns) == 0 || slices.Contains(w.columns, column)
}

// table is the message that tells it.
func (v view) table() message { return shape{v.shown} }

// isToldBy asks a message that a view made, or none, whether it tells just this one.
func (v view) isToldBy(m message) bool {
	last, is := m.(shape)
	return is && sameTable(last.tab, v.shown)
}

// change is the message that tells a change; nil: it is not told.
func (v view) change(c api.Change) message {
	switch c.Kind {
	case api.RecInsert:
		return v.rows(api.PubInsert, nil, v.row(c.New))
	case api.RecUpdate:
		return v.rows(api.PubUpdate, v.row(c.Old), v.row(c.New))
	case api.RecDelete:
		return v.rows(api.PubDelete, v.row(c.Old), nil)
	}
	if v.kinds&api.PubEmpty == 0 {
		return nil
	}
	return emptying{v.shown.ID}
}

// rows tells that one row took another's place; where there is none, it is nil.
func (v view) rows(kind int, from, to api.Row) message {
	switch {
	case v.kinds&kind == 0 || from == nil && to == nil:
		return nil
	case to == nil:
		return deletion{v.shown.ID, from}
	case from == nil:
		return insertion{v.shown.ID, to}
	}
	return update{v.shown.ID, from, to}
}

// row is what is shown of a row; nil, if it does not fit the filter.
func (v view) row(r api.Row) api.Row {
	if !v.fits(r) {
		return nil
	}
	shown := make(api.Row, len(v.places))
	for i, place := range v.places {
		shown[i] = r[place]
	}
	return shown
}

func (v view) fits(r api.Row) bool {
	if v.condition == nil {
		return true
	}
	answer, e := v.condition.Eval(v.whole, r)
	return e == api.OK && answer == api.Value{Kind: api.Bool, N: 1}
}
