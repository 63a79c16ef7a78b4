package query_test

import (
	"math/rand"
	"regexp"
	"slices"
	"strings"
	"testing"

	"confluence/api"
	"confluence/expr"
	"confluence/query"
	"confluence/value"
)

// table is the chapter's, one form a line; COLUMNS and SETTING stand for what the chapter says of them.
const table = `
create table NAME ( COLUMNS )
drop table NAME
alter table NAME add NAME KIND
truncate NAME
insert into NAME values ROW , ..
update NAME set SETTING , .. [ where EXPR ]
delete from NAME [ where EXPR ]
select LIST from NAME [ where EXPR ] [ order by EXPR [ desc ] ] [ limit COUNT ]
begin
commit
rollback
savepoint NAME
rollback to NAME
release NAME
prepare LABEL
commit prepared LABEL
rollback prepared LABEL`

// piece is a token as the chapter says what one is; its place. One without bytes is the end, or a quote that has none.
type piece struct {
	bytes string
	place int
}

var (
	aWord  = regexp.MustCompile(`^[a-z][a-z0-9_]*`)
	aRow   = regexp.MustCompile(`^[0-9]+`)
	aQuote = regexp.MustCompile(`^(?s)'(?:[^']|'')*'`)
	aName  = regexp.MustCompile(`^[a-z][a-z0-9_]{0,15}$`)
	aLabel = regexp.MustCompile(`^'[a-z][a-z0-9_]{0,15}'$`)
	aCount = regexp.MustCompile(`^[0-9]{1,9}$`)
	aKind  = regexp.MustCompile(`^(int|text|bool)$`)
	aValue = regexp.MustCompile(`^('|[0-9]|null$|true$|false$)`)
	aStop  = regexp.MustCompile(`^([,)]|from|where|order|limit|desc)$`)
)

// piecesOf are the tokens of a text, up to the first quote without an end, or to its end.
func piecesOf(s string) []piece {
	var l []piece
	for at := 0; ; {
		for at < len(s) && s[at] == ' ' {
			at++
		}
		if at == len(s) {
			return append(l, piece{place: at})
		}
		one := s[at : at+1]
		for _, r := range []*regexp.Regexp{aWord, aRow, aQuote} {
			if m := r.FindString(s[at:]); m != "" {
				one = m
			}
		}
		if one[0] == '\'' && (len(one) == 1 || strings.HasPrefix(s[at+len(one):], "'")) {
			return append(l, piece{place: at})
		}
		l = append(l, piece{one, at})
		at += len(one)
	}
}

// walk holds tokens against the forms by all ways at once; it knows the farthest token with which some way could not go on.
type walk struct {
	text   string
	pieces []piece
	far    int
	why    api.Errno
	place  int
}

// stop notes that a way ends at a token.
func (w *walk) stop(i int, why api.Errno, place int) {
	if i > w.far {
		w.far, w.why, w.place = i, why, place
	}
}

// one is where a token ends that holds against a rule, if it does.
func (w *walk) one(i int, is func(string) bool) []int {
	if w.pieces[i].bytes != "" && is(w.pieces[i].bytes) {
		return []int{i + 1}
	}
	w.stop(i, api.ErrQueryForm, w.pieces[i].place)
	return nil
}

func (w *walk) word(i int, s string) []int {
	return w.one(i, func(b string) bool { return b == s })
}

// line is where words of the table may end that begin at one of those places.
func (w *walk) line(words []string, from []int) []int {
	for len(words) > 0 && len(from) > 0 {
		n := 1
		switch {
		case words[0] == "[":
			for depth := 1; depth > 0; n++ {
				depth += map[string]int{"[": 1, "]": -1}[words[n]]
			}
			from = union(from, w.line(words[1:n-1], from))
		case len(words) > 2 && words[2] == "..":
			n = 3
			from = w.row(from, map[string]int{"ROW": 16, "SETTING": 8}[words[0]], func(i int) []int { return w.named(words[0], i) })
		default:
			var all []int
			for _, i := range from {
				all = union(all, w.named(words[0], i))
			}
			from = all
		}
		words = words[n:]
	}
	return from
}

// row is where a row of things may end, with commas between; the one too many may not begin.
func (w *walk) row(from []int, most int, thing func(int) []int) []int {
	var ends []int
	for n := 1; len(from) > 0; n++ {
		var next []int
		for _, i := range from {
			if n > most {
				w.stop(i, api.ErrQueryForm, w.pieces[i].place)
				continue
			}
			for _, k := range thing(i) {
				ends = union(ends, []int{k})
				next = union(next, w.word(k, ","))
			}
		}
		from = next
	}
	return ends
}

func (w *walk) named(name string, i int) []int {
	switch name {
	case "NAME":
		return w.one(i, aName.MatchString)
	case "LABEL":
		return w.one(i, aLabel.MatchString)
	case "KIND":
		return w.one(i, aKind.MatchString)
	case "COUNT":
		return w.one(i, aCount.MatchString)
	case "COLUMNS":
		return w.columns(i, 1, false)
	case "ROW":
		var ends []int
		for _, k := range w.line([]string{"("}, []int{i}) {
			ends = w.line([]string{")"}, w.row([]int{k}, 8, w.value))
		}
		return ends
	case "SETTING":
		return w.line(strings.Fields("NAME = EXPR"), []int{i})
	case "LIST":
		if w.pieces[i].bytes == "*" && w.pieces[i+1].bytes == "from" {
			return []int{i + 1}
		}
		return w.row([]int{i}, 8, w.expr)
	case "EXPR":
		return w.expr(i)
	}
	return w.word(i, name)
}

// columns are the n-th and those behind it; whether one ahead of it has `key`.
func (w *walk) columns(i, n int, key bool) []int {
	if n > 8 {
		w.stop(i, api.ErrQueryForm, w.pieces[i].place)
		return nil
	}
	var ends []int
	behind := func(k int, key bool) {
		if key {
			ends = append(ends, k)
		}
		for _, j := range w.word(k, ",") {
			ends = append(ends, w.columns(j, n+1, key)...)
		}
	}
	for _, k := range w.line([]string{"NAME", "KIND"}, []int{i}) {
		behind(k, key)
		for _, j := range w.line([]string{"not", "null"}, []int{k}) {
			behind(j, key)
		}
		if !key {
			for _, j := range w.word(k, "key") {
				behind(j, true)
			}
		}
	}
	return ends
}

func (w *walk) value(i int) []int {
	text, k := w.pieces[i].bytes, i+1
	if text == "-" {
		text += w.pieces[k].bytes
		if len(w.one(k, aRow.MatchString)) == 0 {
			return nil
		}
		k++
	} else if len(w.one(i, aValue.MatchString)) == 0 {
		return nil
	}
	if _, e := value.Parse(text); e != api.OK {
		w.stop(i, e, w.pieces[i].place)
		return nil
	}
	return []int{k}
}

func (w *walk) expr(i int) []int {
	k := i
	for depth := 0; w.pieces[k].bytes != "" && (depth > 0 || !aStop.MatchString(w.pieces[k].bytes)); k++ {
		depth += map[string]int{"(": 1, ")": -1}[w.pieces[k].bytes]
	}
	if k == i || w.pieces[k].bytes == "" && w.pieces[k].place < len(w.text) {
		w.stop(k, api.ErrQueryForm, w.pieces[k].place)
		return nil
	}
	from, last := w.pieces[i].place, w.pieces[k-1]
	if _, e, at := expr.Parse(w.text[from : last.place+len(last.bytes)]); e != api.OK {
		w.stop(i, e, from+at)
		return nil
	}
	return []int{k}
}

func union(a, b []int) []int {
	out := append(slices.Clone(a), b...)
	slices.Sort(out)
	return slices.Compact(out)
}

// judged is what Q1 says of a text.
func judged(s string) (api.Errno, int) {
	if len(s) > 1000 {
		return api.ErrQueryLong, 0
	}
	w := walk{text: s, pieces: piecesOf(s), far: -1}
	for _, line := range strings.Split(table, "\n") {
		if line == "" {
			continue
		}
		for _, k := range w.line(strings.Fields(line), []int{0}) {
			if w.pieces[k].bytes == "" && w.pieces[k].place == len(s) {
				return api.OK, 0
			}
			w.stop(k, api.ErrQueryForm, w.pieces[k].place)
		}
	}
	return w.why, w.place
}

// hold tells whether Parse says of a text what the chapter says; and whether it takes it.
func hold(t *testing.T, s string) bool {
	t.Helper()
	why, place := judged(s)
	q, e, at := query.Parse(s)
	if e != why || at != place || (q != nil) != (why == api.OK) {
		t.Fatalf("Parse(%q) = %v, %d, %d, want %d, %d", s, q, e, at, why, place)
	}
	return e == api.OK
}

// TestQ1Beginnings: of each form, and what each ends with.
func TestQ1Beginnings(t *testing.T) {
	for _, s := range append(slices.Clone(everyForm),
		"  create table t(a int,b text not null,c bool not null,d int key,e int,f int,g int,h int)",
		"insert into t values(-1,'it''s',null),( - 22 ,true,false) , ('''', '\\0a', 9223372036854775807)",
		"update t set n=n+1,name='x''y',b=(from) where id in(1,2)and not(desc)",
		"select coalesce(a,(b),'('),(c)*(limit) from t where a||'where' like '%''' order by (1+2)*c desc limit 000000010 ",
	) {
		for n := range len(s) + 1 {
			hold(t, s[:n])
			hold(t, s[n:])
			hold(t, s[:n]+" ")
			for _, more := range someWords {
				hold(t, s[:n]+more+s[n:])
				hold(t, s[:n]+" "+more+" "+s[n:])
				hold(t, s[:n]+more)
			}
			if n < len(s) {
				hold(t, s[:n]+s[n+1:])
				hold(t, s[:n]+"\xff"+s[n+1:])
			}
		}
	}
}

// someWords are tokens, of which some begin others, and what is none.
var someWords = strings.Fields("create table drop alter add truncate insert into values update set delete from where select order by desc limit begin commit rollback savepoint to release prepare prepared key not null int text bool true false ( ( ( ) ) ) , , , * = - - + 0 1 5 05 1234567890 9223372036854775808 '' 'a' 'a' 'A' 'it''s' '\\41' t t a b x abs length abcdefghijklmnopq ' \xff A _ ; é")

// TestQ1RandomRows: rows of tokens, of which most can go on for a while.
func TestQ1RandomRows(t *testing.T) {
	source := rand.New(rand.NewSource(1201))
	taken := 0
	for range 2000 {
		s := ""
		for range source.Intn(40) {
			more := someWords[source.Intn(len(someWords))]
			if source.Intn(6) > 0 {
				more = " " + more
			}
			// One that can't stand here is left out, mostly: else a row would end soon.
			if why, place := judged(s + more); source.Intn(60) > 0 && why != api.OK && place < len(s)+len(more) {
				continue
			}
			s += more
		}
		if hold(t, s) {
			taken++
		}
	}
	if taken < 200 {
		t.Errorf("only %d were statements", taken)
	}
}

// TestQ1Spoilt: right texts, with a byte or two turned, put in or left out.
func TestQ1Spoilt(t *testing.T) {
	g := seeded(1202)
	taken := 0
	for range 20000 {
		if hold(t, g.spoilt(g.spaced(g.statement().pieces()))) {
			taken++
		}
	}
	if taken < 1000 || taken > 18000 {
		t.Errorf("%d of 20000 were statements", taken)
	}
}

// TestQ1AnyBytes: what is made of any bytes, and of those that matter.
func TestQ1AnyBytes(t *testing.T) {
	source := rand.New(rand.NewSource(1203))
	const often = "     ()(),-*='abfrom019_\\\xff\xc3\xa9"
	heads := []string{"", "select ", "insert into t values (", "delete from t where ", "create table t (", "prepare "}
	for range 20000 {
		out := make([]byte, source.Intn(12))
		for i := range out {
			if out[i] = byte(source.Intn(256)); source.Intn(8) > 0 {
				out[i] = often[source.Intn(len(often))]
			}
		}
		hold(t, heads[source.Intn(len(heads))]+string(out))
	}
}
