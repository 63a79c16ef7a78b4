package expr_test

import (
	"math/big"
	"slices"
	"strings"

	"confluence/api"
)

// The model: expressions as trees, written, looked at and worked out by the chapter's words once more.

// answer is what comes of a part.
type answer struct {
	v api.Value
	e api.Errno
}

func (a answer) known() bool { return a.v != null }

func known(v api.Value) answer { return answer{v: v} }

func failed(e api.Errno) answer { return answer{e: e} }

// part is worked out when it is asked for.
type part func() answer

// form is one way to make an expression of others: its text, with a # for each of them; its level, and those that their places want;
// of which kinds they are (B, I, T; x: all of one; ?: any), and of which kind it is itself (also f: of the first one's); how it is worked out.
type form struct {
	text  string
	level int
	wants []int
	takes string
	gives byte
	do    func(l []part) answer
}

var forms = []form{
	{"# or #", 1, []int{1, 2}, "BB", 'B', lazyLogic(2, func(a, b int) int { return max(a, b) })},
	{"# and #", 2, []int{2, 3}, "BB", 'B', lazyLogic(0, func(a, b int) int { return min(a, b) })},
	{"not #", 3, []int{3}, "B", 'B', all(func(l []api.Value) answer { return turned(known(l[0])) })},
	{"# = #", 4, []int{5, 5}, "xx", 'B', strict(func(l []api.Value) answer { return known(logic(order(l[0], l[1]) == 0)) })},
	{"# <> #", 4, []int{5, 5}, "xx", 'B', strict(func(l []api.Value) answer { return known(logic(order(l[0], l[1]) != 0)) })},
	{"# < #", 4, []int{5, 5}, "xx", 'B', strict(func(l []api.Value) answer { return known(logic(order(l[0], l[1]) < 0)) })},
	{"# <= #", 4, []int{5, 5}, "xx", 'B', strict(func(l []api.Value) answer { return known(logic(order(l[0], l[1]) <= 0)) })},
	{"# > #", 4, []int{5, 5}, "xx", 'B', strict(func(l []api.Value) answer { return known(logic(order(l[0], l[1]) > 0)) })},
	{"# >= #", 4, []int{5, 5}, "xx", 'B', strict(func(l []api.Value) answer { return known(logic(order(l[0], l[1]) >= 0)) })},
	{"# is null", 4, []int{5}, "?", 'B', all(func(l []api.Value) answer { return known(logic(l[0] == null)) })},
	{"# is not null", 4, []int{5}, "?", 'B', all(func(l []api.Value) answer { return known(logic(l[0] != null)) })},
	{"# in (#)", 4, []int{5, 1}, "xx", 'B', isIn},
	{"# in (#, #, #)", 4, []int{5, 1, 1, 1}, "xxxx", 'B', isIn},
	{"# not in (#)", 4, []int{5, 1}, "xx", 'B', func(l []part) answer { return turned(isIn(l)) }},
	{"# not in (#, #)", 4, []int{5, 1, 1}, "xxx", 'B', func(l []part) answer { return turned(isIn(l)) }},
	{"# between # and #", 4, []int{5, 5, 5}, "xxx", 'B', all(isBetween)},
	{"# not between # and #", 4, []int{5, 5, 5}, "xxx", 'B', all(func(l []api.Value) answer { return turned(isBetween(l)) })},
	{"# like #", 4, []int{5, 5}, "TT", 'B', strict(func(l []api.Value) answer { return known(logic(likes(l[0].S, l[1].S))) })},
	{"# not like #", 4, []int{5, 5}, "TT", 'B', strict(func(l []api.Value) answer { return known(logic(!likes(l[0].S, l[1].S))) })},
	{"# || #", 5, []int{5, 6}, "TT", 'T', strict(func(l []api.Value) answer { return short(l[0].S + l[1].S) })},
	{"# + #", 6, []int{6, 7}, "II", 'I', arithmetic((*big.Int).Add, false)},
	{"# - #", 6, []int{6, 7}, "II", 'I', arithmetic((*big.Int).Sub, false)},
	{"# * #", 7, []int{7, 8}, "II", 'I', arithmetic((*big.Int).Mul, false)},
	{"# / #", 7, []int{7, 8}, "II", 'I', arithmetic((*big.Int).Quo, true)},
	{"# % #", 7, []int{7, 8}, "II", 'I', arithmetic((*big.Int).Rem, true)},
	{"-(#)", 9, []int{1}, "I", 'I', strict(func(l []api.Value) answer { return fitting(new(big.Int).Neg(great(l[0]))) })},
	{"case when # then # end", 9, []int{1, 1}, "Bx", 'x', choose},
	{"case when # then # else # end", 9, []int{1, 1, 1}, "Bxx", 'x', choose},
	{"case when # then # when # then # end", 9, []int{1, 1, 1, 1}, "BxBx", 'x', choose},
	{"case when # then # when # then # else # end", 9, []int{1, 1, 1, 1, 1}, "BxBxx", 'x', choose},
	{"length(#)", 9, []int{1}, "T", 'I', strict(func(l []api.Value) answer { return known(number(len(l[0].S))) })},
	{"abs(#)", 9, []int{1}, "I", 'I', strict(func(l []api.Value) answer { return fitting(new(big.Int).Abs(great(l[0]))) })},
	{"upper(#)", 9, []int{1}, "T", 'T', strict(func(l []api.Value) answer { return known(text(upper.Replace(l[0].S))) })},
	{"lower(#)", 9, []int{1}, "T", 'T', strict(func(l []api.Value) answer { return known(text(lower.Replace(l[0].S))) })},
	{"nullif(#, #)", 9, []int{1, 1}, "xx", 'f', all(nullIf)},
	{"substr(#, #, #)", 9, []int{1, 1, 1}, "TII", 'T', strict(substring)},
	{"coalesce(#)", 9, []int{1}, "x", 'x', firstOf},
	{"coalesce(#, #, #)", 9, []int{1, 1, 1}, "xxx", 'x', firstOf},
	{"greatest(#)", 9, []int{1}, "x", 'x', strict(func(l []api.Value) answer { return known(sorted(l)[len(l)-1]) })},
	{"greatest(#, #, #)", 9, []int{1, 1, 1}, "xxx", 'x', strict(func(l []api.Value) answer { return known(sorted(l)[len(l)-1]) })},
	{"least(#)", 9, []int{1}, "x", 'x', strict(func(l []api.Value) answer { return known(sorted(l)[0]) })},
	{"least(#, #)", 9, []int{1, 1}, "xx", 'x', strict(func(l []api.Value) answer { return known(sorted(l)[0]) })},
}

// node is an expression: a form and its parts; or, without a form, a literal or a name, which is printed so.
type node struct {
	form  *form
	parts []*node
	leaf  string
	value api.Value // of a literal
	name  string    // of a name
}

// filled is its text, each part in it as that says.
func (x *node) filled(say func(x *node, wants int) string) string {
	if x.form == nil {
		return x.leaf
	}
	out := ""
	for i, s := range strings.Split(x.form.text, "#") {
		if out += s; i < len(x.parts) {
			out += say(x.parts[i], x.form.wants[i])
		}
	}
	return out
}

// printed is it as X2 says.
func (x *node) printed() string {
	return x.filled(func(x *node, wants int) string {
		if x.form != nil && x.form.level < wants {
			return "(" + x.printed() + ")"
		}
		return x.printed()
	})
}

// bracketed is it with brackets around each part.
func (x *node) bracketed() string {
	return x.filled(func(x *node, _ int) string { return "(" + x.bracketed() + ")" })
}

func (x *node) depth() int {
	d := 0
	for _, p := range x.parts {
		d = max(d, p.depth())
	}
	return d + 1
}

func (x *node) names() []string {
	var l []string
	if x.name != "" {
		l = append(l, x.name)
	}
	for _, p := range x.parts {
		l = append(l, p.names()...)
	}
	var once []string
	for i, name := range l {
		if !slices.Contains(l[:i], name) {
			once = append(once, name)
		}
	}
	return once
}

var kindOf = map[byte]int{'B': api.Bool, 'I': api.Int, 'T': api.Text}

// check is its kind over columns.
func (x *node) check(columns []api.Column) (int, api.Errno) {
	if x.form == nil && x.name == "" {
		return x.value.Kind, api.OK
	}
	if x.form == nil {
		for _, c := range columns {
			switch {
			case c.Name != x.name:
			case c.Kind < api.Int || c.Kind > api.Bool:
				return 0, api.ErrExprKind
			default:
				return c.Kind, api.OK
			}
		}
		return 0, api.ErrExprName
	}
	var kinds []int
	for _, p := range x.parts {
		k, e := p.check(columns)
		if e != api.OK {
			return 0, e
		}
		kinds = append(kinds, k)
	}
	return x.form.kind(kinds)
}

// kind is that of a form, of parts of these kinds.
func (f *form) kind(kinds []int) (int, api.Errno) {
	one := api.Null
	for i, k := range kinds {
		want := f.takes[i]
		switch {
		case k == api.Null || want == '?':
		case want != 'x' && k != kindOf[want], want == 'x' && one != api.Null && k != one:
			return 0, api.ErrExprKind
		case want == 'x':
			one = k
		}
	}
	switch f.gives {
	case 'x':
		return one, api.OK
	case 'f':
		return kinds[0], api.OK
	}
	return kindOf[f.gives], api.OK
}

// eval is it over a row that is right for those columns.
func (x *node) eval(columns []api.Column, r api.Row) answer {
	if x.form == nil && x.name == "" {
		return known(x.value)
	}
	if x.form == nil {
		for i, c := range columns {
			if c.Name == x.name {
				return known(r[i])
			}
		}
	}
	var l []part
	for _, p := range x.parts {
		l = append(l, func() answer { return p.eval(columns, r) })
	}
	return x.form.do(l)
}

func logic(is bool) api.Value {
	if is {
		return yes
	}
	return no
}

// grade makes numbers of the three answers: false 0, null 1, true 2; so `and` is the least, `or` the greatest of them.
func grade(v api.Value) int {
	switch v {
	case no:
		return 0
	case yes:
		return 2
	}
	return 1
}

func graded(n int) answer { return known([]api.Value{no, null, yes}[n]) }

func turned(a answer) answer {
	if a.e != api.OK {
		return a
	}
	return graded(2 - grade(a.v))
}

// lazyLogic looks at the second part only if the first one is not of that grade.
func lazyLogic(settles int, pick func(a, b int) int) func(l []part) answer {
	return func(l []part) answer {
		a := l[0]()
		if a.e != api.OK || grade(a.v) == settles {
			return a
		}
		b := l[1]()
		if b.e != api.OK {
			return b
		}
		return graded(pick(grade(a.v), grade(b.v)))
	}
}

// all works out all parts, from the left.
func all(do func(l []api.Value) answer) func(l []part) answer {
	return func(l []part) answer {
		var values []api.Value
		for _, p := range l {
			a := p()
			if a.e != api.OK {
				return a
			}
			values = append(values, a.v)
		}
		return do(values)
	}
}

// strict is null, if one of the parts is.
func strict(do func(l []api.Value) answer) func(l []part) answer {
	return all(func(l []api.Value) answer {
		for _, v := range l {
			if v == null {
				return known(null)
			}
		}
		return do(l)
	})
}

func great(v api.Value) *big.Int { return big.NewInt(int64(v.N)) }

// fitting is a number, if 64 bits have room for it.
func fitting(n *big.Int) answer {
	if !n.IsInt64() {
		return failed(api.ErrExprRange)
	}
	return known(number(int(n.Int64())))
}

func arithmetic(do func(z, a, b *big.Int) *big.Int, divides bool) func(l []part) answer {
	return strict(func(l []api.Value) answer {
		if divides && l[1].N == 0 {
			return failed(api.ErrExprZero)
		}
		return fitting(do(new(big.Int), great(l[0]), great(l[1])))
	})
}

func short(s string) answer {
	if len(s) > 200 {
		return failed(api.ErrExprRange)
	}
	return known(text(s))
}

// order is that of two values of one kind.
func order(a, b api.Value) int {
	if a.Kind == api.Text {
		return strings.Compare(a.S, b.S)
	}
	return great(a).Cmp(great(b))
}

func sorted(l []api.Value) []api.Value { return slices.SortedFunc(slices.Values(l), order) }

func isBetween(l []api.Value) answer {
	grades := []int{1, 1}
	if l[0] != null && l[1] != null {
		grades[0] = grade(logic(order(l[0], l[1]) >= 0))
	}
	if l[0] != null && l[2] != null {
		grades[1] = grade(logic(order(l[0], l[2]) <= 0))
	}
	return graded(slices.Min(grades))
}

func isIn(l []part) answer {
	x := l[0]()
	if x.e != api.OK || !x.known() {
		return x
	}
	out := no
	for _, p := range l[1:] {
		a := p()
		switch {
		case a.e != api.OK:
			return a
		case a == x:
			return known(yes)
		case !a.known():
			out = null
		}
	}
	return known(out)
}

func choose(l []part) answer {
	for len(l) >= 2 {
		a := l[0]()
		switch {
		case a.e != api.OK:
			return a
		case a.v == yes:
			return l[1]()
		}
		l = l[2:]
	}
	if len(l) == 1 {
		return l[0]()
	}
	return known(null)
}

func firstOf(l []part) answer {
	for _, p := range l {
		if a := p(); a.e != api.OK || a.known() {
			return a
		}
	}
	return known(null)
}

func nullIf(l []api.Value) answer {
	if l[0] != null && l[1] != null && l[0] == l[1] {
		return known(null)
	}
	return known(l[0])
}

func substring(l []api.Value) answer {
	if l[1].N < 1 || l[2].N < 0 {
		return failed(api.ErrExprRange)
	}
	out := ""
	for i := range len(l[0].S) {
		if place := i + 1; place >= l[1].N && place-l[1].N < l[2].N {
			out += l[0].S[i : i+1]
		}
	}
	return known(text(out))
}

// likes goes by all ways that a `%` may take.
func likes(s, p string) bool {
	switch {
	case p == "":
		return s == ""
	case p[0] == '%':
		return likes(s, p[1:]) || s != "" && likes(s[1:], p)
	}
	return s != "" && (p[0] == '_' || p[0] == s[0]) && likes(s[1:], p[1:])
}

const (
	small   = "abcdefghijklmnopqrstuvwxyz"
	great26 = "ABCDEFGHIJKLMNOPQRSTUVWXYZ"
)

var upper, lower = letters(small, great26), letters(great26, small)

func letters(from, to string) *strings.Replacer {
	var l []string
	for i := range len(from) {
		l = append(l, from[i:i+1], to[i:i+1])
	}
	return strings.NewReplacer(l...)
}
