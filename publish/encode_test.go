package publish_test

import (
	"math"
	"slices"
	"strings"
	"testing"

	"confluence/api"
	"confluence/publish"
)

// sample is a message and its bytes, written down by hand.
type sample struct {
	m api.Message
	s string
}

// samples are new memory at each call, one or more of each kind.
func samples() []sample {
	const pair = "\x06\x02\x01\x0e\x02\x01a"
	lone := api.Table{ID: 1, Version: 1, Name: "t", Columns: []api.Column{{Name: "id", Kind: api.Int}}}
	late := api.Table{ID: 4, Version: 300, Name: "u_2", Columns: []api.Column{{Name: "x", Kind: api.Bool}, {Name: "n", Kind: api.Int, Null: true}, {Name: "k", Kind: api.Text}}, Key: 2}
	return []sample{
		{api.Message{Kind: 1, Xid: 2, Lsn: 8200}, "\x01\x02\x88\x40"},
		{api.Message{Kind: 1, Xid: 1, Lsn: 1}, "\x01\x01\x01"},
		{api.Message{Kind: 1, Xid: last, Lsn: top}, "\x01\xff\xff\xff\xff\x07\x80\xc0\xd0\x86\x03"},
		{api.Message{Kind: 2, Tab: lone}, "\x02\x01\x01\x01t\x01\x02id\x01\x00\x00"},
		{api.Message{Kind: 2, Tab: late}, "\x02\x04\xac\x02\x03u_2\x03\x01x\x03\x00\x01n\x01\x01\x01k\x02\x00\x02"},
		{api.Message{Kind: 3, Table: 2, New: api.Row{number(7), text("a")}}, "\x03\x02" + pair},
		{api.Message{Kind: 3, Table: 300, New: api.Row{no, yes, null, number(-1), text("")}}, "\x03\xac\x02\x08\x05\x03\x04\x00\x01\x01\x02\x00"},
		{api.Message{Kind: 4, Table: 2, Old: api.Row{number(7)}, New: api.Row{number(7), text("a")}}, "\x04\x02\x03\x01\x01\x0e" + pair},
		{api.Message{Kind: 5, Table: 129, Old: api.Row{null}}, "\x05\x81\x01\x02\x01\x00"},
		{api.Message{Kind: 6, Table: 3}, "\x06\x03"},
		{api.Message{Kind: 6, Table: last}, "\x06\xff\xff\xff\xff\x07"},
		{api.Message{Kind: 7, Xid: 1, Lsn: 1, End: 2}, "\x07\x01\x01\x02"},
		{api.Message{Kind: 7, Xid: 128, Lsn: 8192, End: 16384}, "\x07\x80\x01\x80\x40\x80\x80\x01"},
		{api.Message{Kind: 8, Lsn: 5}, "\x08\x05"},
		{api.Message{Kind: 9, Lsn: 8200}, "\x09\x88\x40"},
	}
}

// with is the first sample of a kind with something about it changed.
func with(kind int, how func(*api.Message)) api.Message {
	l := samples()
	m := l[slices.IndexFunc(l, func(c sample) bool { return c.m.Kind == kind })].m
	how(&m)
	return m
}

// taken holds that a message is right: it has its bytes, and these are the message.
func taken(t *testing.T, what string, m api.Message) {
	t.Helper()
	if !rightByRule(m) {
		t.Errorf("%s: %+v is not right by the rules", what, m)
	}
	s, e := publish.Encode(m)
	if want := laidByRule(m); s != want || e != api.OK {
		t.Errorf("%s: Encode(%+v) = %x, %d, want %x", what, m, s, e, want)
	}
	if back, e := publish.Decode(s); !equal(back, m) || e != api.OK {
		t.Errorf("%s: Decode(%x) = %+v, %d, want %+v", what, s, back, e, m)
	}
}

// refused holds that a message is not right.
func refused(t *testing.T, what string, m api.Message) {
	t.Helper()
	if rightByRule(m) {
		t.Errorf("%s: %+v is right by the rules", what, m)
	}
	if s, e := publish.Encode(m); s != "" || e != api.ErrPublishMessage {
		t.Errorf("%s: Encode(%+v) = %x, %d", what, m, s, e)
	}
}

// wrong holds besides that the bytes that would have been its own are none's.
func wrong(t *testing.T, what string, m api.Message) {
	t.Helper()
	refused(t, what, m)
	if canBeLaid(m) {
		noMessage(t, what, laidByRule(m))
	}
}

func noMessage(t *testing.T, what, s string) {
	t.Helper()
	if m, e := publish.Decode(s); !equal(m, api.Message{}) || e != api.ErrPublishMessage {
		t.Errorf("%s: Decode(%x) = %+v, %d", what, s[:min(len(s), 300)], m, e)
	}
}

func TestU1MessagesOfEachKind(t *testing.T) {
	for _, c := range samples() {
		if s, e := publish.Encode(c.m); s != c.s || e != api.OK {
			t.Errorf("Encode(%+v) = %x, %d, want %x", c.m, s, e, c.s)
		}
		taken(t, "a sample", c.m)
	}
}

func TestU1Kinds(t *testing.T) {
	for _, kind := range []int{0, 10, 11, -1, -9, 255, 256, 257, 265, math.MinInt, math.MinInt + 1, math.MaxInt} {
		refused(t, "a kind alone", api.Message{Kind: kind})
		for _, c := range samples() {
			c.m.Kind = kind
			refused(t, "no kind", c.m)
		}
		if kind >= 0 && kind < 256 {
			for _, c := range samples() {
				noMessage(t, "no kind", string([]byte{byte(kind)})+c.s[1:])
			}
		}
	}
	for kind := 1; kind <= 9; kind++ {
		taken(t, "a kind", with(kind, func(*api.Message) {}))
		wrong(t, "a kind with nothing", api.Message{Kind: kind})
	}
}

// setters set a field that is a number.
var setters = map[string]func(*api.Message, int){
	"Xid":   func(m *api.Message, n int) { m.Xid = n },
	"Lsn":   func(m *api.Message, n int) { m.Lsn = n },
	"End":   func(m *api.Message, n int) { m.End = n },
	"Table": func(m *api.Message, n int) { m.Table = n },
}

func TestU1NumbersAtTheirBounds(t *testing.T) {
	for kind := 1; kind <= 9; kind++ {
		for _, field := range fieldsOf[kind] {
			set, is := setters[field]
			if !is {
				continue
			}
			right, wrongs := []int{1, 2, 127, 128, 16383, 16384, last - 1, last}, noNumbers
			if field == "Lsn" || field == "End" {
				right, wrongs = []int{1, 2, 127, 128, 8192, top - 1}, noPositions
				if kind != api.MsgCommit {
					right = append(right, top)
				}
			}
			for _, n := range right {
				taken(t, field, with(kind, func(m *api.Message) {
					if kind == api.MsgCommit {
						m.End = top
					}
					if field == "End" {
						m.Lsn = n
						n++
					}
					set(m, n)
				}))
			}
			for _, n := range wrongs {
				wrong(t, field, with(kind, func(m *api.Message) { set(m, n) }))
			}
		}
	}
}

func TestU1EndIsAboveLsn(t *testing.T) {
	for _, lsn := range []int{1, 2, 127, 128, 8192, 9000, top - 1} {
		commit := func(end int) api.Message { return api.Message{Kind: api.MsgCommit, Xid: 1, Lsn: lsn, End: end} }
		taken(t, "one above", commit(lsn+1))
		taken(t, "the greatest", commit(top))
		for _, end := range []int{lsn, lsn - 1, 0, -lsn, top + 1} {
			wrong(t, "an end", commit(end))
		}
	}
	for _, end := range []int{top - 1, top, top + 1} {
		wrong(t, "nothing is above", api.Message{Kind: api.MsgCommit, Xid: 1, Lsn: top, End: end})
	}
}

// TestU1FieldsOfOthers: what a kind has not is zero.
func TestU1FieldsOfOthers(t *testing.T) {
	strangers := map[string][]func(*api.Message){
		"Tab": {
			func(m *api.Message) { m.Tab = thing() },
			func(m *api.Message) { m.Tab.ID = 1 },
			func(m *api.Message) { m.Tab.Version = -1 },
			func(m *api.Message) { m.Tab.Name = "t" },
			func(m *api.Message) { m.Tab.Columns = make([]api.Column, 1) },
			func(m *api.Message) { m.Tab.Key = 1 },
		},
		"Old": {func(m *api.Message) { m.Old = sevens(1) }, func(m *api.Message) { m.Old = api.Row{null} }, func(m *api.Message) { m.Old = sevens(9) }},
		"New": {func(m *api.Message) { m.New = sevens(1) }, func(m *api.Message) { m.New = api.Row{null} }, func(m *api.Message) { m.New = sevens(9) }},
	}
	for field, set := range setters {
		for _, n := range []int{1, -1, 8192, last, math.MaxInt, math.MinInt} {
			strangers[field] = append(strangers[field], func(m *api.Message) { set(m, n) })
		}
	}
	for kind := 1; kind <= 9; kind++ {
		for field, l := range strangers {
			if slices.Contains(fieldsOf[kind], field) {
				continue
			}
			for _, how := range l {
				refused(t, "a field of others: "+field, with(kind, how))
			}
		}
		taken(t, "empty lists", with(kind, func(m *api.Message) {
			for _, r := range []*api.Row{&m.Old, &m.New} {
				if len(*r) == 0 {
					*r = make(api.Row, 0, 3)
				}
			}
			if len(m.Tab.Columns) == 0 {
				m.Tab.Columns = []api.Column{}
			}
		}))
	}
}

func TestU1Rows(t *testing.T) {
	for kind := api.MsgInsert; kind <= api.MsgDelete; kind++ {
		for _, field := range fieldsOf[kind][1:] {
			set := func(r api.Row) api.Message {
				return with(kind, func(m *api.Message) {
					if field == "Old" {
						m.Old = r
					} else {
						m.New = r
					}
				})
			}
			for _, r := range rightRows() {
				taken(t, field, set(r))
			}
			for _, r := range wrongRows() {
				wrong(t, field, set(r))
			}
		}
	}
	// Rows of an update need not go together: no table is asked.
	taken(t, "two rows", api.Message{Kind: api.MsgUpdate, Table: 1, Old: sevens(8), New: api.Row{text("a")}})
}

func TestU1Tables(t *testing.T) {
	for _, x := range rightTables() {
		taken(t, "a table", msgTable(x))
	}
	for _, x := range wrongTables() {
		wrong(t, "no table", msgTable(x))
	}
}

// TestU1TheGreatest: no message has more bytes than a frame takes.
func TestU1TheGreatest(t *testing.T) {
	wide := slices.Repeat(api.Row{text(full)}, 8)
	for _, m := range []api.Message{
		{Kind: api.MsgUpdate, Table: last, Old: wide, New: wide},
		msgTable(changed(func(x *api.Table) {
			x.ID, x.Version, x.Name, x.Columns = last, last, strings.Repeat("t", 16), columns(8)
			for i := range x.Columns {
				x.Columns[i].Name = strings.Repeat("c", 15) + string(rune('a'+i))
			}
		})),
	} {
		taken(t, "the greatest", m)
		if s, _ := publish.Encode(m); len(s) > api.MaxPayload {
			t.Errorf("%d bytes", len(s))
		}
	}
}
