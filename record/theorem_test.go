package record_test

import (
	"math"
	"math/rand"
	"slices"
	"testing"

	"confluence/api"
	"confluence/record"
)

func pick[T any](source *rand.Rand, l ...T) T { return l[source.Intn(len(l))] }

func randomNumber(source *rand.Rand) int {
	return pick(source, 1, 2, 127, 128, 300, last-1, last, 1+source.Intn(last))
}

func randomText(source *rand.Rand, most int) string {
	s := make([]byte, source.Intn(most+1))
	source.Read(s)
	return string(s)
}

func randomRow(source *rand.Rand) api.Row {
	r := make(api.Row, 1+source.Intn(8))
	for i := range r {
		r[i] = pick(source, null, no, yes, number(int(source.Uint64())>>source.Intn(64)), text(randomText(source, 3)), text(randomText(source, 200)))
	}
	return r
}

func randomTable(source *rand.Rand, id int, name string) api.Table {
	t := api.Table{ID: id, Version: randomNumber(source), Name: name}
	for i := range 1 + source.Intn(8) {
		t.Columns = append(t.Columns, api.Column{Name: pick(source, "", "a_9") + names[i], Kind: 1 + source.Intn(3), Null: source.Intn(2) == 0})
		t.Columns[i].Name = t.Columns[i].Name[:min(16, len(t.Columns[i].Name))]
	}
	t.Key = source.Intn(len(t.Columns))
	t.Columns[t.Key].Kind, t.Columns[t.Key].Null = 1+source.Intn(2), false
	return t
}

func randomTables(source *rand.Rand) ([]api.Table, int) {
	var l []api.Table
	id := 0
	for i := range pick(source, 0, 1, 2, 3, 16, source.Intn(17)) {
		id += 1 + source.Intn(pick(source, 1, 200, 1<<27))
		l = append(l, randomTable(source, id, "t"+string(rune('a'+i))+pick(source, "", "_9")))
	}
	return l, pick(source, id+1, behind)
}

// randomRecord is nearly always a right one.
func randomRecord(source *rand.Rand) api.Rec {
	r := api.Rec{Kind: 1 + source.Intn(15), Xid: randomNumber(source)}
	has := func(field string) bool { return slices.Contains(kindsWith[field], r.Kind) }
	if has("Parent") {
		r.Parent = pick(source, 1, r.Xid-1, 1+source.Intn(r.Xid))
	}
	if has("Table") {
		r.Table = randomNumber(source)
	}
	if has("Old") {
		r.Old = randomRow(source)
	}
	if has("New") {
		r.New = randomRow(source)
	}
	if has("Name") && (!has("Origin") || source.Intn(2) == 0) {
		r.Name = pick(source, names...)
	}
	if has("Origin") && r.Name != "" {
		r.Origin = pick(source, 1, topOrigin, 1+source.Intn(topOrigin))
	}
	if has("Tab") {
		r.Tab = randomTable(source, randomNumber(source), pick(source, names...))
	}
	if has("Tabs") {
		r.Tabs, r.Table = randomTables(source)
		r.Xid = pick(source, r.Xid, behind)
	}
	return r
}

func TestL4BackAgain(t *testing.T) {
	source := rand.New(rand.NewSource(61))
	right := 0
	for range 30000 {
		r := randomRecord(source)
		if r.Kind == api.RecPart && r.Parent >= r.Xid || r.Kind == api.RecPart && r.Parent < 1 {
			wrongField(t, "a part", r)
			continue
		}
		taken(t, "a record", r)
		right++
	}
	if right < 28000 {
		t.Errorf("only %d were right", right)
	}
}

// TestL4AnyBytes spoils bytes of records here and there: what Decode takes then is laid down as these bytes, and as the rules say.
func TestL4AnyBytes(t *testing.T) {
	source := rand.New(rand.NewSource(62))
	right := 0
	for range 100000 {
		s := []byte(laidByRule(randomRecord(source), -1))
		for range 1 + source.Intn(2) {
			at := source.Intn(min(len(s), pick(source, 8, 40, 5000)))
			switch source.Intn(4) {
			case 0:
				s[at] = byte(source.Intn(256))
			case 1:
				s[at] += pick(source, byte(1), 255, 128)
			case 2:
				s = slices.Insert(s, at, byte(source.Intn(256)))
			case 3:
				if len(s) > 1 {
					s = slices.Delete(s, at, at+1)
				}
			}
		}
		if !byRule(t, string(s)) {
			continue
		}
		right++
		r, _ := record.Decode(string(s))
		if again, e := record.Encode(r); again != string(s) || e != api.OK {
			t.Fatalf("%x is taken as %+v, which is laid down as %x, %d", s, r, again, e)
		}
	}
	if right < 10000 {
		t.Errorf("only %d were right", right)
	}
}

// TestL4NoTwoHaveTheSameBytes keeps many records by their bytes, many of them of few numbers, so that they are nearly the same.
func TestL4NoTwoHaveTheSameBytes(t *testing.T) {
	source := rand.New(rand.NewSource(63))
	by := map[string]api.Rec{}
	for range 20000 {
		r := randomRecord(source)
		if source.Intn(2) == 0 {
			r.Xid, r.Kind = 1+source.Intn(3), pick(source, r.Kind, 1, 6, 7, 9, 12, 14)
		}
		s, e := record.Encode(r)
		if e != api.OK {
			continue
		}
		if q, there := by[s]; there && !equal(q, r) {
			t.Fatalf("%+v and %+v have the same bytes: %x", q, r, s)
		}
		by[s] = r
	}
}

// TestL4AnyRecord lets one field of a record be what it may not, or may not always: it is taken just if its bytes by the rules, read by the rules, are it.
func TestL4AnyRecord(t *testing.T) {
	source := rand.New(rand.NewSource(64))
	odd := append([]int{1, 2, last, behind}, noNumbers...)
	right := 0
	for range 50000 {
		r := randomRecord(source)
		switch source.Intn(10) {
		case 0:
			r.Kind = pick(source, 0, 16, -1, 1+source.Intn(15), math.MaxInt)
		case 1:
			r.Xid = pick(source, odd...)
		case 2:
			r.Parent = pick(source, odd...)
		case 3:
			r.Table = pick(source, odd...)
		case 4:
			r.Old = pick(source, wrongRows()...)
		case 5:
			r.New = pick(source, wrongRows()...)
		case 6:
			r.Name = pick(source, noNames...)
		case 7:
			r.Origin = pick(source, odd...)
		case 8:
			r.Tab = pick(source, append(wrongTables(), rightTables()...)...)
		case 9:
			r.Tabs = append(tablesUpTo(source.Intn(3)), pick(source, rightTables()...))
		}
		want := api.OK
		if r.Kind < 1 || r.Kind > 15 {
			want = api.ErrRecordKind
		} else if back, ok := takenByRule(laidByRule(r, -1)); !ok || !equal(back, r) {
			want = api.ErrRecordField
		}
		if want == api.OK {
			taken(t, "any record", r)
			right++
		} else {
			refused(t, "any record", r, want)
		}
	}
	if right < 2000 {
		t.Errorf("only %d were right", right)
	}
}

func TestExamples(t *testing.T) {
	bytes := func(what string, r api.Rec, want string) {
		t.Helper()
		if s, e := record.Encode(r); s != want || e != api.OK {
			t.Errorf("%s: Encode(%+v) = %x, %d, want %x", what, r, s, e, want)
		}
	}
	printed := func(what string, r api.Rec, want string) {
		t.Helper()
		if p := record.Print(r); p != want {
			t.Errorf("%s: Print(%+v) = %s, want %s", what, r, p, want)
		}
	}
	bytes("example 1", api.Rec{Kind: api.RecBegin, Xid: 300}, "\x01\xac\x02")
	bytes("example 1", api.Rec{Kind: api.RecPart, Xid: 5, Parent: 3}, "\x02\x05\x03")
	refused(t, "example 1", api.Rec{Kind: api.RecPart, Xid: 3, Parent: 5}, api.ErrRecordField)
	refused(t, "example 1", api.Rec{Kind: api.RecBegin}, api.ErrRecordField)
	refused(t, "example 1", api.Rec{Kind: api.RecBegin, Xid: 1, Table: 1}, api.ErrRecordField)
	refused(t, "example 1", api.Rec{Kind: 16}, api.ErrRecordKind)
	insert := api.Rec{Kind: api.RecInsert, Xid: 1, Table: 2, New: pair()}
	bytes("example 2", insert, "\x03\x01\x02\x06\x02\x01\x0e\x02\x01\x61")
	printed("example 2", insert, "insert 1 table 2 (7, 'a')")
	bytes("example 3", api.Rec{Kind: api.RecCommit, Xid: 1}, "\x08\x01\x00\x00")
	refused(t, "example 3", api.Rec{Kind: api.RecCommit, Xid: 1, Name: "a"}, api.ErrRecordField)
	printed("example 3", api.Rec{Kind: api.RecCommit, Xid: 1}, "commit 1")
	printed("example 3", api.Rec{Kind: api.RecCommit, Xid: 1, Name: "pub", Origin: 8192}, "commit 1 from pub at 8192")
	for _, s := range []string{"", "\x01\x80", "\x01\x01\x00", "\x01\x81\x00"} {
		noRecord(t, "example 4", s)
	}
	if r, e := record.Decode("\x01\x80\x01"); !equal(r, api.Rec{Kind: api.RecBegin, Xid: 128}) || e != api.OK {
		t.Errorf("example 4: %+v, %d", r, e)
	}
	printed("example 5", api.Rec{Kind: api.RecCreate, Xid: 9, Tab: thing()}, "create 9 t 1.1 (id int, name text null) key id")
}
