package expr

import (
	"strconv"
	"strings"

	"confluence/api"
	"confluence/value"
)

// refusal is what whoever can't go on gives up with: why, and the place.
type refusal struct {
	why   api.Errno
	place int
}

// Parse reads one; the place at which it may not be.
func Parse(s string) (*Expr, api.Errno, int) {
	if len(s) > api.MaxExpr {
		return nil, api.ErrExprForm, api.MaxExpr
	}
	e, r := read(s)
	switch {
	case r.why != api.OK:
		return nil, r.why, r.place
	case e.depth() > api.MaxNest:
		return nil, api.ErrExprDeep, 0
	}
	return e, api.OK, 0
}

// read is the expression of a text, however deep it is.
func read(s string) (e *Expr, no refusal) {
	defer func() {
		switch r := recover().(type) {
		case nil:
		case refusal:
			e, no = nil, r
		default:
			panic(r) // nobody gave up: it is a fault of the program
		}
	}()
	p := parser{tokens: tokensOf(s)}
	e = p.or()
	if last := p.take(); last.sort != end {
		panic(refused(last))
	}
	return e, refusal{}
}

// refused is what is said of a token that may not stand where it stands.
func refused(t token) refusal { return refusal{api.ErrExprForm, t.place} }

// parser goes through tokens; it has a method for each line of the grammar.
type parser struct {
	tokens []token // those that were not taken; the last one is the end, with which nothing goes on
}

func (p *parser) next() token { return p.tokens[0] }

func (p *parser) take() token {
	t := p.tokens[0]
	p.tokens = p.tokens[1:]
	return t
}

// takes takes the next token, if it is that word or sign.
func (p *parser) takes(s string) bool {
	if p.next().bytes != s {
		return false
	}
	p.take()
	return true
}

// want takes the next token, which must be that word or sign.
func (p *parser) want(s string) {
	if !p.takes(s) {
		panic(refused(p.next()))
	}
}

// takesOne takes the next token, if it is the word or sign of one of these.
func (p *parser) takesOne(l ...op) (op, bool) {
	for _, o := range l {
		if p.takes(shapes[o].word) {
			return o, true
		}
	}
	return literal, false
}

func (p *parser) or() *Expr { return p.row(p.and, or) }

func (p *parser) and() *Expr { return p.row(p.not, and) }

func (p *parser) not() *Expr {
	if p.takes("not") {
		return held(not, p.not())
	}
	return p.compare()
}

func (p *parser) compare() *Expr {
	left := p.join()
	if o, is := p.takesOne(equal, unequal, below, atMost, above, atLeast); is {
		return held(o, left, p.join())
	}
	if p.takes("is") {
		e := &Expr{op: null, not: p.takes("not"), parts: []*Expr{left}}
		p.want("null")
		return e
	}
	turned := p.takes("not")
	o, is := p.takesOne(in, between, like)
	switch {
	case is:
		return &Expr{op: o, not: turned, parts: append([]*Expr{left}, p.tested(o)...)}
	case turned:
		panic(refused(p.next()))
	}
	return left
}

// tested are the parts that stand behind the word of a test.
func (p *parser) tested(o op) []*Expr {
	switch o {
	case in:
		p.want("(")
		l := p.list()
		p.want(")")
		return l
	case between:
		low := p.join()
		p.want("and")
		return []*Expr{low, p.join()}
	}
	return []*Expr{p.join()}
}

func (p *parser) join() *Expr { return p.row(p.sum, join) }

func (p *parser) sum() *Expr { return p.row(p.product, sum, difference) }

func (p *parser) product() *Expr { return p.row(p.minus, product, quotient, rest) }

func (p *parser) minus() *Expr {
	switch {
	case !p.takes("-"):
		return p.first()
	case p.next().sort == number:
		return numberOf("-", p.take())
	}
	return held(minus, p.minus())
}

func (p *parser) first() *Expr {
	t := p.take()
	switch t.sort {
	case number:
		return numberOf("", t)
	case text:
		return literalOf(t)
	case word:
		return p.worded(t)
	}
	if t.bytes != "(" {
		panic(refused(t))
	}
	e := p.or()
	p.want(")")
	return e
}

// worded is what begins with a word, which was taken.
func (p *parser) worded(t token) *Expr {
	switch {
	case t.bytes == "null" || t.bytes == "true" || t.bytes == "false":
		return literalOf(t)
	case t.bytes == "case":
		return p.choice()
	case isReserved(t.bytes):
		panic(refused(t))
	case p.takes("("):
		return p.function(t)
	}
	return &Expr{op: column, name: strings.Clone(t.bytes)}
}

// function reads the arguments behind a function's bracket, which was taken.
func (p *parser) function(t token) *Expr {
	o, is := functionOf(t.bytes)
	if !is {
		panic(refused(t))
	}
	l := p.list()
	p.want(")")
	if s := shapes[o]; len(l) < s.fewest || len(l) > s.most {
		panic(refused(t))
	}
	return held(o, l...)
}

// choice reads what stands behind `case`, which was taken.
func (p *parser) choice() *Expr {
	var l []*Expr
	p.want("when")
	for again := true; again; again = p.takes("when") {
		l = append(l, p.or())
		p.want("then")
		l = append(l, p.or())
	}
	if p.takes("else") {
		l = append(l, p.or())
	}
	p.want("end")
	return held(choice, l...)
}

// list reads one or more, with commas between.
func (p *parser) list() []*Expr {
	l := []*Expr{p.or()}
	for p.takes(",") {
		l = append(l, p.or())
	}
	return l
}

// row reads parts that some operators hold together, from the left.
func (p *parser) row(part func() *Expr, l ...op) *Expr {
	e := part()
	for {
		o, is := p.takesOne(l...)
		if !is {
			return e
		}
		e = held(o, e, part())
	}
}

func held(o op, parts ...*Expr) *Expr { return &Expr{op: o, parts: parts} }

// literalOf is what a token is a literal of.
func literalOf(t token) *Expr {
	v, _ := value.Parse(t.bytes)
	return &Expr{value: v}
}

// numberOf is the literal of a number, with what stands ahead of it. (`-0` is none of layer 4.)
func numberOf(ahead string, t token) *Expr {
	n, e := strconv.Atoi(ahead + t.bytes)
	if e != nil {
		panic(refusal{api.ErrExprRange, t.place})
	}
	return &Expr{value: api.Value{Kind: api.Int, N: n}}
}
