package expr_test

import (
	"math"
	"math/rand"
	"strings"

	"confluence/api"
	"confluence/value"
)

// garden grows random expressions over things.
type garden struct {
	*rand.Rand
	wrong int // one of so many parts is of any kind; 0: none
}

var kindLetters = []byte{'B', 'I', 'T'}

// leafOf is a literal of the value.
func leafOf(v api.Value) *node { return &node{leaf: value.Print(v), value: v} }

func nameOf(s string) *node { return &node{leaf: s, name: s} }

var someInts = []int{0, 1, 2, 3, 5, 7, -1, -2, -5, 10, math.MaxInt, math.MinInt, math.MaxInt - 1, math.MinInt + 1, 1 << 32, 3037000500, -3037000500}

var someTexts = []string{"", "a", "b", "ab", "abc", "A", "z", "%", "_", "a%", "%b", "_b_", "%a%", "it's", "\\", "\x00", "\xff", "é", " ", "or", strings.Repeat("x", 60)}

func (g garden) value(kind byte) api.Value {
	switch kind {
	case 'B':
		return logic(g.Intn(2) == 0)
	case 'I':
		if g.Intn(6) == 0 {
			return number(int(g.Uint64()) >> g.Intn(64))
		}
		return number(someInts[g.Intn(len(someInts))])
	}
	return text(someTexts[g.Intn(len(someTexts))])
}

// row is any row of things.
func (g garden) row() api.Row {
	var r api.Row
	for _, c := range things.Columns {
		if g.Intn(9) == 0 {
			r = append(r, null)
		} else {
			r = append(r, g.value(" ITB"[c.Kind]))
		}
	}
	return r
}

func (g garden) leaf(kind byte) *node {
	switch g.Intn(16) {
	case 0:
		return leafOf(null)
	case 1, 2, 3, 4, 5, 6, 7:
		return leafOf(g.value(kind))
	}
	names := map[byte][]string{'B': {"p", "q"}, 'I': {"a", "b", "most", "fewest"}, 'T': {"s", "u"}}[kind]
	if g.wrong > 0 && g.Intn(10*g.wrong) == 0 {
		return nameOf("none")
	}
	return nameOf(names[g.Intn(len(names))])
}

// grow is an expression of that kind (but for wrong parts), and at most that depth.
func (g garden) grow(kind byte, depth int) *node {
	if g.wrong > 0 && g.Intn(g.wrong) == 0 {
		kind = kindLetters[g.Intn(3)]
	}
	if depth <= 1 || g.Intn(6) == 0 {
		return g.leaf(kind)
	}
	f := &forms[g.Intn(len(forms))]
	for f.gives != kind && f.gives != 'x' && f.gives != 'f' {
		f = &forms[g.Intn(len(forms))]
	}
	one := kind
	if f.gives != 'x' && f.gives != 'f' {
		one = kindLetters[g.Intn(3)]
	}
	x := &node{form: f}
	for i := range len(f.takes) {
		want := f.takes[i]
		switch want {
		case 'x':
			want = one
		case '?':
			want = kindLetters[g.Intn(3)]
		}
		x.parts = append(x.parts, g.grow(want, depth-1-g.Intn(2)))
	}
	return x
}

// expression is one whose text is short enough, however it is told here.
func (g garden) expression() *node {
	for {
		x := g.grow(kindLetters[g.Intn(3)], 2+g.Intn(5))
		if len(x.bracketed()) <= api.MaxExpr-2 {
			return x
		}
	}
}

// spaced is a text with other blanks between its tokens: none, where two of them can't be read as one.
func (g garden) spaced(s string) string {
	l := piecesOf(s)
	out := strings.Repeat(" ", g.Intn(3))
	for i, p := range l[:len(l)-1] {
		n := g.Intn(4)
		if n == 0 && i > 0 && len(piecesOf(l[i-1].bytes+p.bytes)) == 3 && piecesOf(l[i-1].bytes + p.bytes)[1].bytes == p.bytes {
			out += p.bytes
			continue
		}
		out += strings.Repeat(" ", max(n, 1)) + p.bytes
	}
	if len(out) > api.MaxExpr {
		return s
	}
	return out
}

// spoilt is a text with some bytes turned, put in or left out.
func (g garden) spoilt(s string) string {
	const often = " ()'-,|<>=%0a1\\_\xff"
	for range 1 + g.Intn(2) {
		i := g.Intn(len(s) + 1)
		b := string([]byte{byte(g.Intn(256))})
		if g.Intn(3) > 0 {
			k := g.Intn(len(often))
			b = often[k : k+1]
		}
		switch g.Intn(4) {
		case 0:
			s = s[:i] + b + s[i:]
		case 1:
			s = s[:i] + s[min(i+1, len(s)):]
		case 2:
			s = s[:i] + someWords[g.Intn(len(someWords))] + s[i:]
		default:
			s = s[:i] + b + s[min(i+1, len(s)):]
		}
	}
	return s
}

// seeded is one that grows the same each time.
func seeded(n int64, wrong int) garden { return garden{rand.New(rand.NewSource(n)), wrong} }
