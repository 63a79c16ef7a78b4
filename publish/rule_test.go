package publish_test

import (
	"slices"
	"strings"

	"confluence/api"
	"confluence/catalog"
	"confluence/expr"
	"confluence/value"
)

// The chapter's rules of bytes once more, as plainly as may be; numbers and texts as bytes on nothing that the package stands on.

// laying has the bytes that are laid down; the number that is the pad-th is laid down by a byte too many.
type laying struct {
	out      []byte
	met, pad int
}

func (l *laying) byte(n int) { l.out = append(l.out, byte(n)) }

func (l *laying) digits(n uint64) {
	spare := l.met == l.pad
	l.met++
	for n >= 128 {
		l.out = append(l.out, byte(n%128+128))
		n /= 128
	}
	if spare {
		l.out = append(l.out, byte(n+128))
		n = 0
	}
	l.out = append(l.out, byte(n))
}

func (l *laying) number(n int) { l.digits(uint64(n)) }

func (l *laying) text(s string) {
	l.number(len(s))
	l.out = append(l.out, s...)
}

func (l *laying) row(r api.Row) {
	in := &laying{met: l.met + 1, pad: l.pad} // the Text's length is met first, but laid down last
	in.byte(len(r))
	for _, v := range r {
		switch v.Kind {
		case api.Int:
			in.byte(1)
			in.digits(uint64(v.N)<<1 ^ uint64(v.N>>63))
		case api.Text:
			in.byte(2)
			in.text(v.S)
		case api.Bool:
			in.byte(3 + v.N)
		default:
			in.byte(v.Kind)
		}
	}
	l.text(string(in.out))
	l.met = in.met
}

func (l *laying) table(t api.Table) {
	l.number(t.ID)
	l.number(t.Version)
	l.text(t.Name)
	l.byte(len(t.Columns))
	for _, c := range t.Columns {
		l.text(c.Name)
		l.byte(c.Kind)
		l.byte(map[bool]int{true: 1}[c.Null])
	}
	l.byte(t.Key)
}

// fieldsOf are the fields of each kind, in their order.
var fieldsOf = [][]string{
	1: {"Xid", "Lsn"},
	2: {"Tab"},
	3: {"Table", "New"},
	4: {"Table", "Old", "New"},
	5: {"Table", "Old"},
	6: {"Table"},
	7: {"Xid", "Lsn", "End"},
	8: {"Lsn"},
	9: {"Lsn"},
}

// laidByRule are the bytes of a message of a kind that there is, right or not.
func laidByRule(m api.Message) string {
	s, _ := padded(m, -1)
	return s
}

// padded has the pad-th number by a byte too many, if there is one; and tells how many there are.
func padded(m api.Message, pad int) (string, int) {
	l := &laying{pad: pad}
	l.byte(m.Kind)
	for _, field := range fieldsOf[m.Kind] {
		switch field {
		case "Xid":
			l.number(m.Xid)
		case "Lsn":
			l.number(m.Lsn)
		case "End":
			l.number(m.End)
		case "Table":
			l.number(m.Table)
		case "Tab":
			l.table(m.Tab)
		case "Old":
			l.row(m.Old)
		case "New":
			l.row(m.New)
		}
	}
	return string(l.out), l.met
}

// rightByRule tells whether a message is right, word by word.
func rightByRule(m api.Message) bool {
	if m.Kind < 1 || m.Kind > 9 {
		return false
	}
	has := func(field string) bool { return slices.Contains(fieldsOf[m.Kind], field) }
	within := func(field string, n, most int) bool {
		if has(field) {
			return n >= 1 && n <= most
		}
		return n == 0
	}
	rowIs := func(field string, r api.Row) bool {
		if !has(field) {
			return len(r) == 0
		}
		_, e := value.Encode(r)
		return e == api.OK && len(r) >= 1 && len(r) <= 8
	}
	tab := equalTable(m.Tab, api.Table{})
	if has("Tab") {
		tab = catalog.Right(m.Tab) == api.OK
	}
	return within("Xid", m.Xid, last) && within("Table", m.Table, last) && within("Lsn", m.Lsn, top) && within("End", m.End, top) &&
		(!has("End") || m.End > m.Lsn) && tab && rowIs("Old", m.Old) && rowIs("New", m.New)
}

// canBeLaid tells whether the bytes of a wrong message are not by chance those of a right one: as they would be of numbers that no byte holds.
func canBeLaid(m api.Message) bool {
	if m.Kind < 1 || m.Kind > 9 {
		return false
	}
	ok := true
	isByte := func(n int) { ok = ok && n >= 0 && n <= 255 }
	isByte(len(m.Tab.Columns))
	isByte(m.Tab.Key)
	for _, c := range m.Tab.Columns {
		isByte(c.Kind)
	}
	for _, r := range []api.Row{m.Old, m.New} {
		isByte(len(r))
		for _, v := range r {
			isNull, isBool := v == api.Value{}, v.Kind == api.Bool && (v.N == 0 || v.N == 1) && v.S == ""
			isInt, isText := v.Kind == api.Int && v.S == "", v.Kind == api.Text && v.N == 0
			ok = ok && (isNull || isBool || isInt || isText)
		}
	}
	return ok
}

// taking takes bytes without asking whether they are right; behind their end all is 0.
type taking struct{ rest string }

func (r *taking) byte() int {
	if r.rest == "" {
		return 0
	}
	b := r.rest[0]
	r.rest = r.rest[1:]
	return int(b)
}

func (r *taking) digits() uint64 {
	var n uint64
	for i := range 10 {
		b := r.byte()
		n |= uint64(b&127) << (7 * i)
		if b < 128 {
			break
		}
	}
	return n
}

func (r *taking) number() int { return int(r.digits()) }

func (r *taking) text() string {
	n := r.number()
	n = max(0, min(n, len(r.rest)))
	s := r.rest[:n]
	r.rest = r.rest[n:]
	return s
}

func (r *taking) row() api.Row {
	in := &taking{r.text()}
	var l api.Row
	for range in.byte() {
		switch mark := in.byte(); mark {
		case 1:
			n := in.digits()
			l = append(l, number(int(n>>1)^-int(n&1)))
		case 2:
			l = append(l, text(in.text()))
		case 3, 4:
			l = append(l, api.Value{Kind: api.Bool, N: mark - 3})
		default:
			l = append(l, api.Value{Kind: -mark}) // 0 is a null; others have no form
		}
	}
	return l
}

func (r *taking) table() api.Table {
	t := api.Table{ID: r.number(), Version: r.number(), Name: r.text()}
	for range r.byte() {
		t.Columns = append(t.Columns, api.Column{Name: r.text(), Kind: r.byte(), Null: r.byte() != 0})
	}
	t.Key = r.byte()
	return t
}

// takenByRule is the right message whose bytes these are; false: there is none.
func takenByRule(s string) (api.Message, bool) {
	r := &taking{s}
	m := api.Message{Kind: r.byte()}
	if m.Kind < 1 || m.Kind > 9 {
		return api.Message{}, false
	}
	for _, field := range fieldsOf[m.Kind] {
		switch field {
		case "Xid":
			m.Xid = r.number()
		case "Lsn":
			m.Lsn = r.number()
		case "End":
			m.End = r.number()
		case "Table":
			m.Table = r.number()
		case "Tab":
			m.Tab = r.table()
		case "Old":
			m.Old = r.row()
		case "New":
			m.New = r.row()
		}
	}
	if !rightByRule(m) || laidByRule(m) != s {
		return api.Message{}, false
	}
	return m, true
}

func isName(s string) bool {
	const letters, others = "abcdefghijklmnopqrstuvwxyz", "0123456789_"
	return len(s) >= 1 && len(s) <= 16 && strings.Contains(letters, s[:1]) && strings.Trim(s, letters+others) == "" &&
		!strings.ContainsFunc(s, func(r rune) bool { return !strings.ContainsRune(letters+others, r) })
}

// publicationByRule tells whether a publication is right, word by word.
func publicationByRule(p api.Publication) bool {
	ok := isName(p.Name) && len(p.Tables) >= 1 && len(p.Tables) <= 8
	met := map[string]int{}
	for _, t := range p.Tables {
		met[t.Table]++
		ok = ok && isName(t.Table) && met[t.Table] == 1 && t.Kinds >= 1 && t.Kinds <= 15 && len(t.Columns) <= 8
		named := map[string]int{}
		for _, c := range t.Columns {
			named[c]++
			ok = ok && isName(c) && named[c] == 1
		}
		if t.Filter != "" {
			_, why, _ := expr.Parse(t.Filter)
			ok = ok && why == api.OK
		}
	}
	return ok
}

// paddedPublication is one, right or not, as bytes; the pad-th number has a byte too many, if there is one; it tells how many there are.
func paddedPublication(p api.Publication, pad int) (string, int) {
	l := &laying{pad: pad}
	l.text(p.Name)
	l.byte(len(p.Tables))
	for _, t := range p.Tables {
		l.text(t.Table)
		l.byte(t.Kinds)
		l.byte(len(t.Columns))
		for _, c := range t.Columns {
			l.text(c)
		}
		l.text(t.Filter)
	}
	return string(l.out), l.met
}

func publicationLaid(p api.Publication) string {
	s, _ := paddedPublication(p, -1)
	return s
}

// publicationTaken is the right publication whose bytes these are; false: there is none.
func publicationTaken(s string) (api.Publication, bool) {
	r := &taking{s}
	p := api.Publication{Name: r.text()}
	for range r.byte() {
		t := api.Published{Table: r.text(), Kinds: r.byte()}
		for range r.byte() {
			t.Columns = append(t.Columns, r.text())
		}
		t.Filter = r.text()
		p.Tables = append(p.Tables, t)
	}
	if !publicationByRule(p) || publicationLaid(p) != s {
		return api.Publication{}, false
	}
	return p, true
}
