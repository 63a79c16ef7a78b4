package expr

import (
	"slices"
	"strings"

	"confluence/api"
	"confluence/value"
)

// row is what expressions are worked out over: each column has a value.
type row struct {
	columns []api.Column
	values  api.Row
}

// Eval works it out, for a row.
func (e *Expr) Eval(t api.Table, r api.Row) (api.Value, api.Errno) {
	if _, why := e.Check(t); why != api.OK {
		return api.Value{}, why
	}
	if len(r) != len(t.Columns) {
		return api.Value{}, api.ErrArg
	}
	over := row{t.Columns, r}
	if !over.suits(e.Names()) {
		return api.Value{}, api.ErrExprKind
	}
	v, why := e.work(over)
	v.S = strings.Clone(v.S) // it may be a piece of the row
	return v, why
}

// suits tells whether the values of some columns may stand there, or null in place of them.
func (r row) suits(names []string) bool {
	for _, name := range names {
		i := placeOf(r.columns, name)
		if value.Fits(r.values[i], api.Column{Kind: r.columns[i].Kind, Null: true}) != api.OK {
			return false
		}
	}
	return true
}

// work is its value; beside an error null.
func (e *Expr) work(r row) (api.Value, api.Errno) {
	v, why := e.workPlain(r)
	if e.not {
		v = negated(v)
	}
	return v, why
}

// workPlain is its value ahead of a test's being turned round. Who need not look at all parts does it here.
func (e *Expr) workPlain(r row) (api.Value, api.Errno) {
	switch e.op {
	case literal:
		return e.value, api.OK
	case column:
		return r.values[placeOf(r.columns, e.name)], api.OK
	case and:
		return e.settled(r, false)
	case or:
		return e.settled(r, true)
	case in:
		return e.found(r)
	case choice:
		return e.chosen(r)
	case coalesce:
		return e.firstKnown(r)
	}
	l, why := workAll(e.parts, r)
	if why != api.OK {
		return api.Value{}, why
	}
	return e.hold(l)
}

func workAll(parts []*Expr, r row) ([]api.Value, api.Errno) {
	l := make([]api.Value, len(parts))
	for i, p := range parts {
		v, why := p.work(r)
		if why != api.OK {
			return nil, why
		}
		l[i] = v
	}
	return l, api.OK
}

// settled is the answer of `and`, which a false settles, or of `or`, which a true does.
func (e *Expr) settled(r row, by bool) (api.Value, api.Errno) {
	answer := truth(!by)
	for _, p := range e.parts {
		v, why := p.work(r)
		if why != api.OK || v == truth(by) {
			return v, why
		}
		if v == (api.Value{}) {
			answer = v
		}
	}
	return answer, api.OK
}

// found is whether the first part is one of the others.
func (e *Expr) found(r row) (api.Value, api.Errno) {
	wanted, why := e.parts[0].work(r)
	if why != api.OK || wanted == (api.Value{}) {
		return wanted, why
	}
	answer := truth(false)
	for _, p := range e.parts[1:] {
		v, why := p.work(r)
		switch {
		case why != api.OK:
			return v, why
		case v == wanted:
			return truth(true), api.OK
		case v == (api.Value{}):
			answer = v
		}
	}
	return answer, api.OK
}

// chosen is the value of a case.
func (e *Expr) chosen(r row) (api.Value, api.Errno) {
	l := e.parts
	for ; len(l) > 1; l = l[2:] {
		v, why := l[0].work(r)
		switch {
		case why != api.OK:
			return v, why
		case v == truth(true):
			return l[1].work(r)
		}
	}
	if len(l) == 0 {
		return api.Value{}, api.OK
	}
	return l[0].work(r)
}

// firstKnown is the first part that is not null, or null.
func (e *Expr) firstKnown(r row) (api.Value, api.Errno) {
	for _, p := range e.parts {
		v, why := p.work(r)
		if why != api.OK || v != (api.Value{}) {
			return v, why
		}
	}
	return api.Value{}, api.OK
}

// hold is what comes of the parts' values, of those that look at all of them.
func (e *Expr) hold(l []api.Value) (api.Value, api.Errno) {
	switch {
	case e.op == null:
		return truth(l[0] == api.Value{}), api.OK
	case e.op == between:
		return both(ordered(l[1], l[0]), ordered(l[0], l[2])), api.OK
	case e.op == nullif && l[0] != l[1]:
		return l[0], api.OK
	case e.op == nullif || slices.Contains(l, api.Value{}):
		return api.Value{}, api.OK
	}
	return e.holdKnown(l)
}

// holdKnown is hold of values of which none is null.
func (e *Expr) holdKnown(l []api.Value) (api.Value, api.Errno) {
	switch e.op {
	case not:
		return negated(l[0]), api.OK
	case equal, unequal, below, atMost, above, atLeast:
		return truth(compares(e.op, value.Compare(l[0], l[1]))), api.OK
	case greatest:
		return slices.MaxFunc(l, value.Compare), api.OK
	case least:
		return slices.MinFunc(l, value.Compare), api.OK
	case minus:
		return calculate(difference, 0, l[0].N)
	case abs:
		return absolute(l[0].N)
	case sum, difference, product, quotient, rest:
		return calculate(e.op, l[0].N, l[1].N)
	case join:
		return joined(l[0].S, l[1].S)
	case like:
		return truth(fits(l[0].S, l[1].S)), api.OK
	case length:
		return ofInt(len(l[0].S)), api.OK
	case upper:
		return ofText(resized(l[0].S, 'a', 'A')), api.OK
	case lower:
		return ofText(resized(l[0].S, 'A', 'a')), api.OK
	}
	return cut(l[0].S, l[1].N, l[2].N)
}
