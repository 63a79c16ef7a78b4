package record_test

import (
	"strconv"
	"strings"

	"confluence/api"
)

// The chapter's rules once more, as plainly as may be, on nothing that the package stands on.

// laying has the bytes that are laid down; the number that is the pad-th is laid down by a byte too many.
type laying struct {
	out      []byte
	met, pad int
}

func (l *laying) byte(n int) { l.out = append(l.out, byte(n)) }

func (l *laying) digits(n uint64) {
	spare := l.met == l.pad
	l.met++
	for n >= 128 {
		l.out = append(l.out, byte(n%128+128))
		n /= 128
	}
	if spare {
		l.out = append(l.out, byte(n+128))
		n = 0
	}
	l.out = append(l.out, byte(n))
}

func (l *laying) number(n int) { l.digits(uint64(n)) }

func (l *laying) text(s string) {
	l.number(len(s))
	l.out = append(l.out, s...)
}

func (l *laying) row(r api.Row) {
	in := &laying{met: l.met + 1, pad: l.pad} // the Text's length is met first, but laid down last
	in.byte(len(r))
	for _, v := range r {
		switch v.Kind {
		case api.Int:
			in.byte(1)
			in.digits(uint64(v.N)<<1 ^ uint64(v.N>>63))
		case api.Text:
			in.byte(2)
			in.text(v.S)
		case api.Bool:
			in.byte(3 + v.N)
		default:
			in.byte(v.Kind)
		}
	}
	l.text(string(in.out))
	l.met = in.met
}

func (l *laying) table(t api.Table) {
	l.number(t.ID)
	l.number(t.Version)
	l.text(t.Name)
	l.byte(len(t.Columns))
	for _, c := range t.Columns {
		l.text(c.Name)
		l.byte(c.Kind)
		l.byte(map[bool]int{true: 1}[c.Null])
	}
	l.byte(t.Key)
}

// laidByRule are the bytes of a record, right or not; pad below 0: no number has a byte too many.
func laidByRule(r api.Rec, pad int) string {
	s, _ := padded(r, pad)
	return s
}

// padded tells besides how many numbers there are.
func padded(r api.Rec, pad int) (string, int) {
	l := &laying{pad: pad}
	l.byte(r.Kind)
	l.number(r.Xid)
	switch r.Kind {
	case 2:
		l.number(r.Parent)
	case 3:
		l.number(r.Table)
		l.row(r.New)
	case 4:
		l.number(r.Table)
		l.row(r.Old)
		l.row(r.New)
	case 5:
		l.number(r.Table)
		l.row(r.Old)
	case 8:
		l.text(r.Name)
		l.number(r.Origin)
	case 10:
		l.text(r.Name)
	case 11, 13:
		l.table(r.Tab)
	case 12, 14:
		l.number(r.Table)
	case 15:
		l.number(r.Table)
		l.byte(len(r.Tabs))
		for _, t := range r.Tabs {
			l.table(t)
		}
	}
	return string(l.out), l.met
}

// canBeLaid tells whether the bytes of a wrong record are not by chance those of a right one: as they would be of numbers that no byte holds.
func canBeLaid(r api.Rec) bool {
	ok := true
	isByte := func(n int) { ok = ok && n >= 0 && n <= 255 }
	isByte(len(r.Tabs))
	for _, t := range append([]api.Table{r.Tab}, r.Tabs...) {
		isByte(len(t.Columns))
		isByte(t.Key)
		for _, c := range t.Columns {
			isByte(c.Kind)
		}
	}
	for _, row := range []api.Row{r.Old, r.New} {
		isByte(len(row))
		for _, v := range row {
			isNull, isBool := v == api.Value{}, v.Kind == api.Bool && (v.N == 0 || v.N == 1) && v.S == ""
			isInt, isText := v.Kind == api.Int && v.S == "", v.Kind == api.Text && v.N == 0
			ok = ok && (isNull || isBool || isInt || isText)
		}
	}
	return ok
}

func printedByRule(r api.Rec) string {
	n := strconv.Itoa
	x, at := " "+n(r.Xid), " table "+n(r.Table)
	switch r.Kind {
	case 1:
		return "begin" + x
	case 2:
		return "part" + x + " of " + n(r.Parent)
	case 3:
		return "insert" + x + at + " " + rowByRule(r.New)
	case 4:
		return "update" + x + at + " " + rowByRule(r.Old) + " to " + rowByRule(r.New)
	case 5:
		return "delete" + x + at + " " + rowByRule(r.Old)
	case 6:
		return "release" + x
	case 7:
		return "back" + x
	case 8:
		if r.Name == "" {
			return "commit" + x
		}
		return "commit" + x + " from " + r.Name + " at " + n(r.Origin)
	case 9:
		return "abort" + x
	case 10:
		return "prepare" + x + " as " + r.Name
	case 11:
		return "create" + x + tableByRule(r.Tab)
	case 12:
		return "drop" + x + at
	case 13:
		return "widen" + x + tableByRule(r.Tab)
	case 14:
		return "empty" + x + at
	}
	s := "checkpoint next" + x + at
	for _, t := range r.Tabs {
		s += tableByRule(t)
	}
	return s
}

func rowByRule(r api.Row) string {
	s := ""
	for _, v := range r {
		switch v.Kind {
		case api.Null:
			s += ", null"
		case api.Int:
			s += ", " + strconv.Itoa(v.N)
		case api.Bool:
			s += ", " + strconv.FormatBool(v.N == 1)
		case api.Text:
			s += ", '"
			for _, b := range []byte(v.S) {
				switch {
				case b == '\'':
					s += "''"
				case b < 32 || b > 126 || b == '\\':
					const signs = "0123456789abcdef"
					s += `\` + signs[b>>4:b>>4+1] + signs[b&15:b&15+1]
				default:
					s += string(rune(b))
				}
			}
			s += "'"
		}
	}
	return "(" + strings.TrimPrefix(s, ", ") + ")"
}

func tableByRule(t api.Table) string {
	s := ""
	for _, c := range t.Columns {
		s += ", " + c.Name + " " + []string{"", "int", "text", "bool"}[c.Kind]
		if c.Null {
			s += " null"
		}
	}
	return " " + t.Name + " " + strconv.Itoa(t.ID) + "." + strconv.Itoa(t.Version) + " (" + s[2:] + ") key " + t.Columns[t.Key].Name
}

// taking takes bytes by the rules; what is wrong is kept.
type taking struct {
	rest  string
	wrong bool
}

func (k *taking) raw(n int) string {
	if k.wrong || n > len(k.rest) {
		k.wrong = true
		return strings.Repeat("\x00", min(n, 1))
	}
	s := k.rest[:n]
	k.rest = k.rest[n:]
	return s
}

func (k *taking) byte() int { return int(k.raw(1)[0]) }

func (k *taking) digits() uint64 {
	var n uint64
	for i := range 10 {
		b := k.byte()
		n |= uint64(b%128) << (7 * i)
		if b < 128 {
			k.wrong = k.wrong || b == 0 && i > 0 || i == 9 && b > 1
			return n
		}
	}
	k.wrong = true
	return 0
}

// number is one that is at most so great, and at least so small.
func (k *taking) number(least, most int) int {
	n := k.digits()
	if n < uint64(least) || n > uint64(most) {
		k.wrong = true
		return 0
	}
	return int(n)
}

func (k *taking) text(most int) string { return k.raw(k.number(0, most)) }

func (k *taking) name() string {
	s := k.text(16)
	k.wrong = k.wrong || !nameByRule(s)
	return s
}

func nameByRule(s string) bool {
	const letters = "abcdefghijklmnopqrstuvwxyz"
	return s != "" && len(s) <= 16 && strings.Trim(s[:1], letters) == "" && strings.Trim(s, letters+"0123456789_") == ""
}

func (k *taking) row() api.Row {
	in := &taking{rest: k.text(4000)}
	var r api.Row
	n := in.byte()
	in.wrong = in.wrong || n < 1 || n > 8
	for range min(n, 8) {
		switch mark := in.byte(); mark {
		case 0:
			r = append(r, api.Value{})
		case 1:
			d := in.digits()
			r = append(r, number(int(d>>1)^-int(d&1)))
		case 2:
			r = append(r, text(in.text(200)))
		case 3, 4:
			r = append(r, api.Value{Kind: api.Bool, N: mark - 3})
		default:
			in.wrong = true
		}
	}
	k.wrong = k.wrong || in.wrong || in.rest != ""
	return r
}

func (k *taking) table(most int) api.Table {
	t := api.Table{ID: k.number(1, most), Version: k.number(1, last), Name: k.name()}
	n := k.byte()
	k.wrong = k.wrong || n < 1 || n > 8
	there := map[string]bool{}
	for range min(n, 8) {
		c := api.Column{Name: k.name(), Kind: k.byte()}
		flag := k.byte()
		c.Null = flag == 1
		k.wrong = k.wrong || c.Kind < 1 || c.Kind > 3 || flag > 1 || there[c.Name]
		there[c.Name] = true
		t.Columns = append(t.Columns, c)
	}
	t.Key = k.byte()
	k.wrong = k.wrong || t.Key >= len(t.Columns) || t.Columns[t.Key].Kind == api.Bool || t.Columns[t.Key].Null
	return t
}

func (k *taking) tables(next int) []api.Table {
	var l []api.Table
	n, above := k.byte(), 0
	k.wrong = k.wrong || n > 16
	there := map[string]bool{}
	for range min(n, 16) {
		t := k.table(next - 1)
		k.wrong = k.wrong || t.ID <= above || there[t.Name]
		above, there[t.Name] = t.ID, true
		l = append(l, t)
	}
	return l
}

// takenByRule is the record whose bytes these are; false, if they are none's.
func takenByRule(s string) (api.Rec, bool) {
	k := &taking{rest: s}
	r := api.Rec{Kind: k.byte()}
	if r.Kind == 15 {
		r.Xid, r.Table = k.number(1, behind), k.number(1, behind)
		r.Tabs = k.tables(r.Table)
	} else {
		r.Xid = k.number(1, last)
	}
	switch r.Kind {
	case 1, 6, 7, 9, 15:
	case 2:
		r.Parent = k.number(1, r.Xid-1)
	case 3:
		r.Table, r.New = k.number(1, last), k.row()
	case 4:
		r.Table, r.Old, r.New = k.number(1, last), k.row(), k.row()
	case 5:
		r.Table, r.Old = k.number(1, last), k.row()
	case 8:
		if r.Name = k.text(16); r.Name == "" {
			r.Origin = k.number(0, 0)
		} else {
			k.wrong = k.wrong || !nameByRule(r.Name)
			r.Origin = k.number(1, topOrigin)
		}
	case 10:
		r.Name = k.name()
	case 11, 13:
		r.Tab = k.table(last)
	case 12, 14:
		r.Table = k.number(1, last)
	default:
		k.wrong = true
	}
	if k.wrong || k.rest != "" {
		return api.Rec{}, false
	}
	return r, true
}
