package expr

import (
	"strings"

	"confluence/api"
	"confluence/value"
)

// sort is what a token is.
type sort int

const (
	number sort = iota
	text
	word
	other // a sign, which is known by its bytes; or what is no token, or a wrong one, which nobody asks for
	end
)

const quote = '\''

// token is a piece of a text: what it is, its bytes, where the first of them stands.
type token struct {
	sort  sort
	bytes string
	place int
}

// tokensOf are the tokens of a text, and behind them its end.
func tokensOf(s string) []token {
	var l []token
	behind := 0 // where the last token ends
	for place, r := range s {
		if place < behind || r == ' ' {
			continue
		}
		what, n := begins(s[place:], r)
		l = append(l, token{what, s[place : place+n], place})
		behind = place + n
	}
	return append(l, token{sort: end, place: len(s)})
}

// begins is the token with which s begins, whose first rune is r, and how many bytes it has.
func begins(s string, r rune) (sort, int) {
	switch {
	case r == '0':
		return number, 1
	case isDigit(r):
		return number, run(s, isDigit)
	case isLetter(r):
		n := run(s, isOfWord)
		return only(word, n <= api.MaxName), n
	case r == quote:
		n := quoted(s)
		_, e := value.Parse(s[:n])
		return only(text, e == api.OK), n
	}
	return other, signed(s)
}

// only is what a token is that is right, or another one.
func only(what sort, right bool) sort {
	if right {
		return what
	}
	return other
}

// run is how many bytes s begins with that are such runes.
func run(s string, is func(rune) bool) int {
	for i, r := range s {
		if !is(r) {
			return i
		}
	}
	return len(s)
}

// quoted is how many bytes the text has with which s begins: all, if it has no end.
func quoted(s string) int {
	inside := false
	for i, r := range s {
		switch {
		case r == quote:
			inside = !inside // of two one behind the other the second takes back what the first did
		case !inside:
			return i
		}
	}
	return len(s)
}

// signed is how many bytes the sign has with which s begins.
func signed(s string) int {
	for _, two := range [...]string{"||", "<>", "<=", ">="} {
		if strings.HasPrefix(s, two) {
			return len(two)
		}
	}
	return 1
}

func isLetter(r rune) bool { return r >= 'a' && r <= 'z' }

func isDigit(r rune) bool { return r >= '0' && r <= '9' }

func isOfWord(r rune) bool { return isLetter(r) || isDigit(r) || r == '_' }

// isReserved tells whether a word is no name.
func isReserved(s string) bool {
	switch s {
	case "or", "and", "not", "is", "null", "in", "between", "like", "case", "when", "then", "else", "end", "true", "false":
		return true
	}
	return false
}
