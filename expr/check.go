package expr

import (
	"slices"

	"confluence/api"
)

// Check tells of which kind it is, over a table (Null: of any).
func (e *Expr) Check(t api.Table) (int, api.Errno) {
	switch e.op {
	case literal:
		return e.value.Kind, api.OK
	case column:
		return kindOf(t.Columns, e.name)
	}
	kinds := make([]int, len(e.parts))
	for i, p := range e.parts {
		kind, why := p.Check(t)
		if why != api.OK {
			return 0, why
		}
		kinds[i] = kind
	}
	kind, is := e.holds(kinds)
	if !is {
		return 0, api.ErrExprKind
	}
	return kind, api.OK
}

// holds tells of which kind it is, if its parts are of these; false, if they do not go together.
func (e *Expr) holds(kinds []int) (int, bool) {
	switch e.op {
	case or, and, not:
		return api.Bool, goWith(api.Bool, kinds)
	case sum, difference, product, quotient, rest, minus, abs:
		return api.Int, goWith(api.Int, kinds)
	case join, upper, lower:
		return api.Text, goWith(api.Text, kinds)
	case like:
		return api.Bool, goWith(api.Text, kinds)
	case length:
		return api.Int, goWith(api.Text, kinds)
	case null:
		return api.Bool, true
	case nullif:
		return kinds[0], goWith(common(kinds), kinds)
	case coalesce, greatest, least:
		return common(kinds), goWith(common(kinds), kinds)
	case substr:
		return api.Text, goWith(api.Text, kinds[:1]) && goWith(api.Int, kinds[1:])
	case choice:
		return chooses(kinds)
	}
	return api.Bool, goWith(common(kinds), kinds)
}

// chooses is holds of a case.
func chooses(kinds []int) (int, bool) {
	var conditions, values []int
	for ; len(kinds) > 1; kinds = kinds[2:] {
		conditions = append(conditions, kinds[0])
		values = append(values, kinds[1])
	}
	values = append(values, kinds...)
	kind := common(values)
	return kind, goWith(api.Bool, conditions) && goWith(kind, values)
}

// goWith tells whether all are of that kind, or may be.
func goWith(kind int, kinds []int) bool {
	for _, k := range kinds {
		if k != kind && k != api.Null {
			return false
		}
	}
	return true
}

// common is the first kind that is not Null: the one of all, if they have one.
func common(kinds []int) int {
	for _, k := range kinds {
		if k != api.Null {
			return k
		}
	}
	return api.Null
}

// kindOf is the kind of the column of a name.
func kindOf(l []api.Column, name string) (int, api.Errno) {
	i := placeOf(l, name)
	if i < 0 {
		return 0, api.ErrExprName
	}
	switch l[i].Kind {
	case api.Int, api.Text, api.Bool:
		return l[i].Kind, api.OK
	}
	return 0, api.ErrExprKind
}

// placeOf is where the first column of a name stands; below 0: nowhere.
func placeOf(l []api.Column, name string) int {
	return slices.IndexFunc(l, func(c api.Column) bool { return c.Name == name })
}
