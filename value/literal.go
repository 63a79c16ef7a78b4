package value

import (
	"strconv"
	"strings"

	"confluence/api"
)

// Of a Text that is printed: what stands at both ends, what leads a byte that is told by two signs, and those signs.
const (
	quote   = '\''
	lead    = '\\'
	sixteen = "0123456789abcdef"
)

// word is a value, and how it is printed.
type word struct {
	text  string
	value api.Value
}

// words are the values that are printed as words.
var words = [...]word{
	{"null", api.Value{}},
	{"false", api.Value{Kind: api.Bool, N: 0}},
	{"true", api.Value{Kind: api.Bool, N: 1}},
}

// Print is a value as a literal.
func Print(v api.Value) string {
	if wrong(v) != api.OK {
		return "?"
	}
	return literal(v)
}

// Parse reads a literal.
func Parse(s string) (api.Value, api.Errno) {
	v := guess(s)
	switch {
	case literal(v) != s:
		return api.Value{}, api.ErrValueForm
	case len(v.S) > api.MaxText:
		return api.Value{}, api.ErrValueLong
	}
	return v, api.OK
}

// literal is a value that has a form as it is printed, however long it is.
func literal(v api.Value) string {
	for _, w := range words {
		if v == w.value {
			return w.text
		}
	}
	if v.Kind == api.Int {
		return strconv.Itoa(v.N)
	}
	return quoted(v.S)
}

// guess is the one value that s may be the literal of; it has a form. Whether s is its literal, nobody needs to know here: who asks prints it again.
func guess(s string) api.Value {
	for _, w := range words {
		if s == w.text {
			return w.value
		}
	}
	if s != "" && s[0] == quote {
		return api.Value{Kind: api.Text, S: unquoted(s)}
	}
	n, _ := strconv.Atoi(s)
	return api.Value{Kind: api.Int, N: n}
}

// quoted is a text as it is printed.
func quoted(s string) string {
	out := []byte{quote}
	for i := range len(s) {
		b := s[i]
		switch {
		case b == quote:
			out = append(out, quote, quote)
		case b < ' ' || b > '~' || b == lead:
			out = append(out, lead, sixteen[b/16], sixteen[b%16])
		default:
			out = append(out, b)
		}
	}
	return string(append(out, quote))
}

// unquoted is the text that s is printed of; if s is printed of none, it is any text.
func unquoted(s string) string {
	var out []byte
	for i := 1; i < len(s)-1; i++ {
		b := s[i]
		switch {
		case b == quote:
			i++
		case b == lead && i+2 < len(s):
			b = 16*sign(s[i+1]) + sign(s[i+2])
			i += 2
		}
		out = append(out, b)
	}
	return string(out)
}

// sign is the number of one of the sixteen signs; of another one it is any number, which is printed otherwise.
func sign(b byte) byte { return byte(strings.IndexByte(sixteen, b)) }
