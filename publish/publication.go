package publish

import (
	"slices"

	"confluence/api"
	"confluence/code"
	"confluence/expr"
)

// allKinds are all kinds of changes that can be published.
const allKinds = api.PubInsert | api.PubUpdate | api.PubDelete | api.PubEmpty

// wanted is a table of a right publication, its filter read once for all rows.
type wanted struct {
	name      string
	kinds     int
	columns   []string
	condition *expr.Expr // nil: there is none
}

// read tells what a publication wants, in memory of its own; ErrPublishForm, if that is not right.
func read(p api.Publication) ([]wanted, api.Errno) {
	if !isName(p.Name) || len(p.Tables) < 1 || len(p.Tables) > api.MaxPublished {
		return nil, api.ErrPublishForm
	}
	var l []wanted
	for i, t := range p.Tables {
		if !isPublished(t) || isAhead(p.Tables[:i], t.Table) {
			return nil, api.ErrPublishForm
		}
		w := wanted{name: t.Table, kinds: t.Kinds, columns: slices.Clone(t.Columns)}
		if t.Filter != "" {
			e, why, _ := expr.Parse(t.Filter)
			if why != api.OK {
				return nil, api.ErrPublishForm
			}
			w.condition = e
		}
		l = append(l, w)
	}
	return l, api.OK
}

// isPublished tells whether a table of a publication is right, but for its filter and those ahead of it.
func isPublished(t api.Published) bool {
	if !isName(t.Table) || t.Kinds < 1 || t.Kinds > allKinds || len(t.Columns) > api.MaxColumns {
		return false
	}
	for i, name := range t.Columns {
		if !isName(name) || slices.Contains(t.Columns[:i], name) {
			return false
		}
	}
	return true
}

func isAhead(l []api.Published, table string) bool {
	return slices.ContainsFunc(l, func(t api.Published) bool { return t.Table == table })
}

// layPublication lays a right one down.
func layPublication(w *code.Writer, p api.Publication) {
	layName(w, p.Name)
	w.Byte(len(p.Tables))
	for _, t := range p.Tables {
		layName(w, t.Table)
		w.Byte(t.Kinds, len(t.Columns))
		for _, name := range t.Columns {
			layName(w, name)
		}
		w.Text(t.Filter, api.MaxExpr)
	}
}

func takePublication(r *code.Reader) api.Publication {
	p := api.Publication{Name: takeName(r)}
	for range r.Byte() {
		p.Tables = append(p.Tables, takePublished(r))
	}
	return p
}

func takePublished(r *code.Reader) api.Published {
	t := api.Published{Table: takeName(r), Kinds: r.Byte()}
	for range r.Byte() {
		t.Columns = append(t.Columns, takeName(r))
	}
	t.Filter = r.Text(api.MaxExpr)
	return t
}
