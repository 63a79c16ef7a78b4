package expr_test

import (
	"math/big"
	"math/rand"
	"regexp"
	"slices"
	"strings"
	"testing"

	"confluence/api"
	"confluence/expr"
)

// grammar is the chapter's, as it stands there.
const grammar = `
or:      and { "or" and }
and:     not { "and" not }
not:     "not" not | compare
compare: join [ ("=" | "<>" | "<" | "<=" | ">" | ">=") join
              | "is" ["not"] "null"
              | ["not"] "in" "(" or { "," or } ")"
              | ["not"] "between" join "and" join
              | ["not"] "like" join ]
join:    sum { "||" sum }
sum:     product { ("+" | "-") product }
product: minus { ("*" | "/" | "%") minus }
minus:   "-" minus | first
first:   NUMBER | TEXT | "null" | "true" | "false" | NAME | "(" or ")"
         | FUNCTION "(" or { "," or } ")"
         | "case" "when" or "then" or { "when" or "then" or } [ "else" or ] "end"
`

// rule is a piece of the grammar: alternatives of sequences, or a single word, or a piece that may stand any number of times, or once or not.
type rule struct {
	ways [][]*rule
	word string
	wrap string // "{" or "["
}

// rulesOf reads the grammar.
func rulesOf(s string) map[string]*rule {
	out := map[string]*rule{}
	words := regexp.MustCompile(`"[^"]+"|[a-zA-Z]+:?|[][(){}|]`).FindAllString(s, -1)
	for len(words) > 0 {
		name := strings.TrimSuffix(words[0], ":")
		n := 1
		for n < len(words) && !strings.HasSuffix(words[n], ":") {
			n++
		}
		body := words[1:n]
		out[name] = waysOf(&body)
		words = words[n:]
	}
	return out
}

// waysOf reads alternatives, up to a closing bracket or the end.
func waysOf(words *[]string) *rule {
	r := &rule{ways: [][]*rule{nil}}
	last := func() *[]*rule { return &r.ways[len(r.ways)-1] }
	for len(*words) > 0 {
		w := (*words)[0]
		*words = (*words)[1:]
		switch w {
		case "|":
			r.ways = append(r.ways, nil)
		case "(", "[", "{":
			inner := waysOf(words)
			inner.wrap = strings.Trim(w, "(")
			*last() = append(*last(), inner)
		case ")", "]", "}":
			return r
		default:
			*last() = append(*last(), &rule{word: w})
		}
	}
	return r
}

// piece is a token as the chapter says what one is: its sort (that of the grammar, or none), its bytes, its place.
type piece struct {
	sort, bytes string
	place       int
}

var (
	rules   = rulesOf(grammar)
	longest = func() *regexp.Regexp {
		r := regexp.MustCompile(`^(?:0|[1-9][0-9]*|'(?:[^']|'')*'|[a-z][a-z0-9_]*|\|\||<>|<=|>=|[(),+\-*/%=<>])`)
		r.Longest()
		return r
	}()
	literal = regexp.MustCompile(`^'(?:[ -&(-[\]-~]|''|\\5c|\\[01][0-9a-f]|\\7f|\\[89a-f][0-9a-f]){0,200}'$`)
)

// piecesOf are the tokens of a text, up to the first wrong one, or to its end.
func piecesOf(s string) []piece {
	var l []piece
	for at := 0; ; {
		for at < len(s) && s[at] == ' ' {
			at++
		}
		w := longest.FindString(s[at:])
		p := piece{bytes: w, place: at}
		at += len(w)
		switch {
		case w == "" || w[0] == '\'' && (!literal.MatchString(w) || strings.HasPrefix(s[at:], "'")) || w[0] >= 'a' && len(w) > 16:
			return nameFunctions(append(l, piece{place: p.place}))
		case w[0] == '\'':
			p.sort = "TEXT"
		case w[0] >= '0' && w[0] <= '9':
			p.sort = "NUMBER"
		case w[0] >= 'a' && w[0] <= 'z' && !slices.Contains(strings.Fields(reserved), w):
			p.sort = "NAME"
		default:
			p.sort = `"` + w + `"`
		}
		l = append(l, p)
	}
}

func nameFunctions(l []piece) []piece {
	for i := range len(l) - 1 {
		if l[i].sort == "NAME" && l[i+1].bytes == "(" {
			l[i].sort = "FUNCTION"
		}
	}
	return l
}

// walk holds tokens against the grammar by all ways at once.
type walk struct {
	pieces []piece
	known  map[string]map[int][]int // by rule and beginning: where it may end
	far    int                      // the farthest token that some way asked for and did not find
}

// ends are all places where a sequence may end that begins at one of those.
func (w *walk) sequence(l []*rule, from []int) []int {
	for _, r := range l {
		from = w.rule(r, from)
	}
	return from
}

func (w *walk) rule(r *rule, from []int) []int {
	switch {
	case r.wrap == "[":
		return union(from, w.ways(r, from))
	case r.wrap == "{":
		all := from
		for more := w.ways(r, from); len(more) > 0; more = w.ways(r, more) {
			all = union(all, more)
		}
		return all
	case r.word == "":
		return w.ways(r, from)
	}
	var out []int
	for _, i := range from {
		out = union(out, w.named(r.word, i))
	}
	return out
}

func (w *walk) ways(r *rule, from []int) []int {
	var out []int
	for _, l := range r.ways {
		out = union(out, w.sequence(l, from))
	}
	return out
}

// named is where a rule or a token may end.
func (w *walk) named(name string, i int) []int {
	r := rules[name]
	if r == nil {
		if w.pieces[i].sort == name {
			return []int{i + 1}
		}
		w.far = max(w.far, i)
		return nil
	}
	if w.known[name] == nil {
		w.known[name] = map[int][]int{}
	}
	if l, is := w.known[name][i]; is {
		return l
	}
	l := w.ways(r, []int{i})
	w.known[name][i] = l
	return l
}

func union(a, b []int) []int {
	out := append(slices.Clone(a), b...)
	slices.Sort(out)
	return slices.Compact(out)
}

// judged is what X1 says of a text, its depth left aside.
func judged(s string) (api.Errno, int) {
	if len(s) > 400 {
		return api.ErrExprForm, 400
	}
	l := piecesOf(s)
	w := walk{pieces: l, known: map[string]map[int][]int{}}
	all := w.named("or", 0)
	bad := w.far // the token with which nothing goes on; the last one is none that could
	if slices.Contains(all, len(l)-1) && l[len(l)-1].place == len(s) {
		bad = len(l)
	}
	for i := range min(bad, len(l)-1) {
		if e, place := met(l, i); e != api.OK {
			return e, place
		}
	}
	if bad == len(l) {
		return api.OK, 0
	}
	return api.ErrExprForm, l[bad].place
}

// met is what is wrong at a token with which something can go on.
func met(l []piece, i int) (api.Errno, int) {
	switch {
	case l[i].sort == "NUMBER":
		limit := big.NewInt(1<<63 - 1)
		if i > 0 && l[i-1].bytes == "-" && (i == 1 || !endsPart(l[i-2])) {
			limit.Add(limit, big.NewInt(1))
		}
		if n, _ := new(big.Int).SetString(l[i].bytes, 10); n.Cmp(limit) > 0 {
			return api.ErrExprRange, l[i].place
		}
	case l[i].bytes == "(" && i > 0 && l[i-1].sort == "FUNCTION":
		if _, is := functions[l[i-1].bytes]; !is {
			return api.ErrExprForm, l[i-1].place
		}
	case l[i].bytes == ")":
		from, n := call(l, i)
		if b, is := functions[l[max(from, 0)].bytes]; is && from >= 0 && l[from].sort == "FUNCTION" && (n < b[0] || n > b[1] && b[1] < 60) {
			return api.ErrExprForm, l[from].place
		}
	}
	return api.OK, 0
}

// call is the token ahead of the bracket that is closed at i, and how many things stand between them.
func call(l []piece, i int) (int, int) {
	depth, n := 0, 1
	for k := i; k >= 0; k-- {
		switch l[k].bytes {
		case ")":
			depth++
		case "(":
			if depth--; depth == 0 {
				return k - 1, n
			}
		case ",":
			if depth == 1 {
				n++
			}
		}
	}
	return -1, n
}

// endsPart tells whether a `-` behind that token stands between two parts.
func endsPart(p piece) bool {
	switch p.sort {
	case "NUMBER", "TEXT", "NAME", `")"`, `"null"`, `"true"`, `"false"`, `"end"`:
		return true
	}
	return false
}

// hold tells whether Parse says of a text what the chapter says; and whether it takes it.
func hold(t *testing.T, s string) bool {
	t.Helper()
	why, place := judged(s)
	e, f, n := expr.Parse(s)
	if why == api.OK && f == api.ErrExprDeep && len(s) > api.MaxNest && e == nil && n == 0 {
		return true // how deep it is, other tests ask
	}
	if f != why || n != place || (e != nil) != (why == api.OK) {
		t.Fatalf("Parse(%q) = %v, %d, %d, want %d, %d", s, e, f, n, why, place)
	}
	return f == api.OK
}

// TestX1Beginnings: of each beginning of an expression.
func TestX1Beginnings(t *testing.T) {
	for _, s := range []string{
		"not a = 10 and b in (1, -2) or c between d || e and f * 3 and g is not null or case when h like '%' then substr(k, 1, 2) else - (m) end <> n",
		"coalesce(a,'it''s\\0a',null)||case when true then-9223372036854775808when false then 9223372036854775807 end not between 0and 1",
		"((a not in (abs(b), least(c, d)))) is null or (x not like y) = (z <= w)",
	} {
		for n := range len(s) + 1 {
			hold(t, s[:n])
			hold(t, s[n:])
		}
	}
}

// someWords are tokens, in parts of which others begin, and what is none.
var someWords = strings.Fields("or and not is null in between like case when then else end true false ( ( ( ) ) ) , , + - - * / % || = <> < <= > >= 0 1 5 9223372036854775807 9223372036854775808 9223372036854775809 '' 'a' 'it''s' '\\00' a b x abs length substr nullif coalesce foo abcdefghijklmnopq | ' '\\41' ] é \xff A _")

// TestX1AllShortRows: each row of at most three tokens, one for each that stands where others may not; apart, and touching one another.
func TestX1AllShortRows(t *testing.T) {
	l := strings.Fields("or and not is null in between like case when then else end ( ) , - * || < 1 9223372036854775808 'a' a abs foo | é")
	taken := 0
	for _, a := range l {
		for _, b := range l {
			for _, c := range l {
				if hold(t, a+" "+b+" "+c) {
					taken++
				}
				hold(t, a+b+" "+c)
				hold(t, a+" "+b+c)
			}
			hold(t, a+b)
		}
	}
	if taken < 50 {
		t.Errorf("only %d are expressions", taken)
	}
}

// TestX1RandomRows: rows of tokens, of which most can go on for a while.
func TestX1RandomRows(t *testing.T) {
	source := rand.New(rand.NewSource(111))
	taken := 0
	for range 3000 {
		s := ""
		for range source.Intn(60) {
			more := someWords[source.Intn(len(someWords))]
			if source.Intn(8) > 0 {
				more = " " + more
			}
			// One that can't stand here is left out, mostly: else a row would end soon.
			if why, place := judged(s + more); source.Intn(40) > 0 && why != api.OK && place < len(s)+len(more) {
				continue
			}
			s += more
		}
		if hold(t, s) {
			taken++
		}
	}
	if taken < 300 {
		t.Errorf("only %d were expressions", taken)
	}
}

// TestX1Spoilt: right texts, with a byte or two turned, put in or left out.
func TestX1Spoilt(t *testing.T) {
	g := seeded(113, 9)
	taken := 0
	for range 6000 {
		s := g.expression().printed()
		if g.Intn(2) == 0 {
			s = g.spaced(s)
		}
		if hold(t, g.spoilt(s)) {
			taken++
		}
	}
	if taken < 500 || taken > 5500 {
		t.Errorf("%d of 6000 were expressions", taken)
	}
}

// TestX1AnyBytes: what is made of any bytes, and of those that matter.
func TestX1AnyBytes(t *testing.T) {
	source := rand.New(rand.NewSource(112))
	const often = "     ()(),+-*/%|=<>'abx019_\\\xff\xc3\xa9"
	for range 20000 {
		out := make([]byte, source.Intn(12))
		for i := range out {
			if out[i] = byte(source.Intn(256)); source.Intn(8) > 0 {
				out[i] = often[source.Intn(len(often))]
			}
		}
		hold(t, string(out))
	}
}
