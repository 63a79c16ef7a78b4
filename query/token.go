package query

import "confluence/api"

// class is what a token is.
type class int

const (
	word class = iota
	number
	quote
	sign
	broken // a `'` without an end and all behind it: no token, so it may stand nowhere
	end
)

const mark = '\''

// token is a piece of a text: what it is, its bytes, where the first of them stands.
type token struct {
	class class
	bytes string
	place int
}

// tokensOf are the tokens of a text, and behind them its end.
func tokensOf(s string) []token {
	var l []token
	for place := 0; place < len(s); {
		if s[place] == ' ' {
			place++
			continue
		}
		what, n := begins(s[place:])
		l = append(l, token{what, s[place : place+n], place})
		place += n
	}
	return append(l, token{class: end, place: len(s)})
}

// begins is the token with which s begins, and how many bytes it has.
func begins(s string) (class, int) {
	switch {
	case isLetter(s[0]):
		return word, run(s, isOfWord)
	case isDigit(s[0]):
		return number, run(s, isDigit)
	case s[0] == mark:
		return quoted(s)
	}
	return sign, 1
}

// run is how many such bytes s begins with.
func run(s string, is func(byte) bool) int {
	for i := range len(s) {
		if !is(s[i]) {
			return i
		}
	}
	return len(s)
}

// quoted is the quote with which s begins, if it has an end.
func quoted(s string) (class, int) {
	for i := 1; i < len(s); i++ {
		switch {
		case s[i] != mark:
		case i+1 < len(s) && s[i+1] == mark:
			i++ // two of them stand for one within
		default:
			return quote, i + 1
		}
	}
	return broken, len(s)
}

func isLetter(b byte) bool { return b >= 'a' && b <= 'z' }

func isDigit(b byte) bool { return b >= '0' && b <= '9' }

func isOfWord(b byte) bool { return isLetter(b) || isDigit(b) || b == '_' }

// isName tells whether a text is a name. The bytes of a token that is no word never are.
func isName(s string) bool {
	return s != "" && len(s) <= api.MaxName && isLetter(s[0]) && run(s, isOfWord) == len(s)
}

// endsExpr tells whether a token ends an EXPR that has no bracket open there.
func endsExpr(t token) bool {
	switch t.bytes {
	case ",", ")", "from", "where", "order", "limit", "desc":
		return true
	}
	return false
}
