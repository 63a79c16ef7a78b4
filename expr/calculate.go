package expr

import (
	"math"
	"strings"

	"confluence/api"
	"confluence/value"
)

func ofInt(n int) api.Value { return api.Value{Kind: api.Int, N: n} }

func ofText(s string) api.Value { return api.Value{Kind: api.Text, S: s} }

func truth(is bool) api.Value {
	if is {
		return api.Value{Kind: api.Bool, N: 1}
	}
	return api.Value{Kind: api.Bool}
}

// negated is `not` of a Bool, or of null.
func negated(v api.Value) api.Value {
	if v == (api.Value{}) {
		return v
	}
	return truth(v == truth(false))
}

// both is `and` of two that are worked out.
func both(a, b api.Value) api.Value {
	if a == truth(false) || b == truth(true) {
		return a
	}
	return b // false, or null
}

// ordered is `a <= b`.
func ordered(a, b api.Value) api.Value {
	if a == (api.Value{}) || b == (api.Value{}) {
		return api.Value{}
	}
	return truth(value.Compare(a, b) <= 0)
}

// compares tells whether a comparison holds of two values that stand so to one another.
func compares(o op, order int) bool {
	switch o {
	case equal:
		return order == 0
	case unequal:
		return order != 0
	case below:
		return order < 0
	case atMost:
		return order <= 0
	case above:
		return order > 0
	}
	return order >= 0
}

// calculate is what an operator makes of two numbers.
func calculate(o op, a, b int) (api.Value, api.Errno) {
	n, out := 0, false
	switch {
	case o == sum:
		n = a + b
		out = (n < a) != (b < 0)
	case o == difference:
		n = a - b
		out = (n > a) != (b < 0)
	case o == product:
		n = a * b
		out = a != 0 && (n/a != b || a == -1 && b == math.MinInt)
	case b == 0:
		return api.Value{}, api.ErrExprZero
	case o == quotient:
		n = a / b
		out = a == math.MinInt && b == -1
	default:
		n = a % b
	}
	if out {
		return api.Value{}, api.ErrExprRange
	}
	return ofInt(n), api.OK
}

func absolute(n int) (api.Value, api.Errno) {
	if n < 0 {
		return calculate(difference, 0, n)
	}
	return ofInt(n), api.OK
}

func joined(a, b string) (api.Value, api.Errno) {
	if len(a)+len(b) > api.MaxText {
		return api.Value{}, api.ErrExprRange
	}
	return ofText(a + b), api.OK
}

// cut is n bytes of a text, from the from-th on (the first one is 1), or as many as there are.
func cut(s string, from, n int) (api.Value, api.Errno) {
	if from < 1 || n < 0 {
		return api.Value{}, api.ErrExprRange
	}
	s = s[min(from-1, len(s)):]
	return ofText(s[:min(n, len(s))]), api.OK
}

// resized is a text whose letters of one size, which begin with first, are of the other one.
func resized(s string, first, other byte) string {
	out := []byte(s)
	for i, b := range out {
		if b >= first && b-first < 26 {
			out[i] = b - first + other
		}
	}
	return string(out)
}

// fits tells whether a pattern, as a whole, fits a text.
func fits(s, pattern string) bool {
	i, k := 0, 0
	many, from := -1, 0 // where the last `%` stands that was met, and from where on the text fits what is behind it
	for i < len(s) {
		switch {
		case k < len(pattern) && pattern[k] == '%':
			many, from = k, i
			k++
		case k < len(pattern) && (pattern[k] == '_' || pattern[k] == s[i]):
			i++
			k++
		case many >= 0: // the `%` takes a byte more
			from++
			i, k = from, many+1
		default:
			return false
		}
	}
	return strings.Trim(pattern[k:], "%") == ""
}
