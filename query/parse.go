package query

import (
	"strconv"
	"strings"

	"confluence/api"
	"confluence/expr"
	"confluence/value"
)

// maxDigits is how many a COUNT may have.
const maxDigits = 9

// parser goes through the tokens of a text. It does not stop at what is wrong: the first fault is kept, and the end
// alone is left behind it, with which nothing goes on.
type parser struct {
	text   string
	tokens []token // those that were not taken; the last one is the end, and is never taken
	why    api.Errno
	place  int
}

// Parse reads one; the place at which it may not be.
func Parse(s string) (*Stmt, api.Errno, int) {
	if len(s) > api.MaxStatement {
		return nil, api.ErrQueryLong, 0
	}
	p := parser{text: s, tokens: tokensOf(s)}
	q := p.statement()
	if p.next().class != end {
		p.refuse(p.next())
	}
	if p.why != api.OK {
		return nil, p.why, p.place
	}
	return q, api.OK, 0
}

// refuse keeps that a token may not stand where it stands.
func (p *parser) refuse(t token) { p.fail(api.ErrQueryForm, t.place) }

func (p *parser) fail(why api.Errno, place int) {
	if p.why == api.OK {
		p.why, p.place = why, place
	}
	p.tokens = p.tokens[len(p.tokens)-1:]
}

func (p *parser) next() token { return p.tokens[0] }

func (p *parser) take() token {
	t := p.tokens[0]
	if t.class != end {
		p.tokens = p.tokens[1:]
	}
	return t
}

// takes takes the next token, if it is that word or sign.
func (p *parser) takes(s string) bool {
	if p.next().bytes != s {
		return false
	}
	p.take()
	return true
}

// want takes the next token, which must be that word or sign.
func (p *parser) want(s string) {
	if !p.takes(s) {
		p.refuse(p.next())
	}
}

// name takes a NAME. Nothing of a statement lies in the text that it was read from.
func (p *parser) name() string {
	t := p.take()
	if !isName(t.bytes) {
		p.refuse(t)
	}
	return strings.Clone(t.bytes)
}

// label takes a LABEL: the name within it.
func (p *parser) label() string {
	t := p.take()
	if t.class != quote || !isName(t.bytes[1:len(t.bytes)-1]) {
		p.refuse(t)
		return ""
	}
	return strings.Clone(t.bytes[1 : len(t.bytes)-1])
}

// kind takes a KIND.
func (p *parser) kind() int {
	t := p.take()
	for kind, w := range kindWords {
		if w == t.bytes && kind != api.Null {
			return kind
		}
	}
	p.refuse(t)
	return api.Null
}

// count takes a COUNT.
func (p *parser) count() int {
	t := p.take()
	if t.class != number || len(t.bytes) > maxDigits {
		p.refuse(t)
	}
	n, _ := strconv.Atoi(t.bytes)
	return n
}

// value takes a VALUE.
func (p *parser) value() api.Value {
	first := p.next()
	ahead := ""
	if p.takes("-") {
		ahead = first.bytes
	}
	t := p.take()
	is := t.class == number || ahead == "" && (t.class == quote || isValueWord(t.bytes))
	if !is {
		p.refuse(t)
		return api.Value{}
	}
	v, why := value.Parse(ahead + t.bytes)
	if why != api.OK {
		p.fail(why, first.place)
	}
	return v
}

func isValueWord(s string) bool { return s == "null" || s == "true" || s == "false" }

// expression takes an EXPR.
func (p *parser) expression() *expr.Expr {
	n := p.reach()
	if behind := p.tokens[n]; n == 0 || behind.class == broken {
		p.refuse(behind)
		return nil
	}
	first, last := p.tokens[0], p.tokens[n-1]
	p.tokens = p.tokens[n:]
	e, why, place := expr.Parse(p.text[first.place : last.place+len(last.bytes)])
	if why != api.OK {
		p.fail(why, first.place+place)
	}
	return e
}

// reach is how many tokens an EXPR has that begins here, up to a `'` that has no end.
func (p *parser) reach() int {
	open := 0
	for i, t := range p.tokens {
		switch {
		case t.class == end || t.class == broken || open == 0 && endsExpr(t):
			return i
		case t.bytes == "(":
			open++
		case t.bytes == ")":
			open--
		}
	}
	return 0 // there is always an end
}

// row takes one or more of something, with commas between; of one too many the first token may not stand there.
func (p *parser) row(most int, one func()) {
	one()
	for n := 1; p.takes(","); n++ {
		if n == most {
			p.refuse(p.next())
			return
		}
		one()
	}
}
