package record_test

import (
	"slices"
	"strings"
	"testing"

	"confluence/api"
	"confluence/record"
)

// byRule holds what Decode says of any bytes against the rules.
func byRule(t *testing.T, s string) bool {
	t.Helper()
	want, ok := takenByRule(s)
	if !ok {
		noRecord(t, "by the rules", s)
		return false
	}
	if r, e := record.Decode(s); !equal(r, want) || e != api.OK {
		t.Errorf("Decode(%x) = %+v, %d, want %+v", s, r, e, want)
	}
	return true
}

func TestL2RecordsOfEachKind(t *testing.T) {
	for _, c := range samples() {
		r, e := record.Decode(c.s)
		if !equal(r, c.r) || e != api.OK {
			t.Errorf("Decode(%x) = %+v, %d, want %+v", c.s, r, e, c.r)
		}
		if !byRule(t, c.s) {
			t.Errorf("%x is none by the rules", c.s)
		}
		has := func(field string) bool { return slices.Contains(kindsWith[field], r.Kind) }
		if r.Old != nil && !has("Old") || r.New != nil && !has("New") || r.Tabs != nil && !has("Tabs") || r.Tab.Columns != nil && !has("Tab") {
			t.Errorf("Decode(%x) has lists that its kind has not: %+v", c.s, r)
		}
	}
}

func TestL2CutAndMore(t *testing.T) {
	for _, c := range samples() {
		for i := range c.s {
			noRecord(t, "cut", c.s[:i])
			noRecord(t, "cut at the front", c.s[i+1:]+"\xff")
		}
		for b := range 256 {
			noRecord(t, "a byte more", c.s+string([]byte{byte(b)}))
		}
		noRecord(t, "many more", c.s+strings.Repeat("\x00", 1<<16))
		noRecord(t, "twice", c.s+c.s)
	}
}

func TestL2NumbersOfTooManyBytes(t *testing.T) {
	for _, c := range samples() {
		_, n := padded(c.r, -1)
		if n < 1 {
			t.Fatalf("%+v has no number", c.r)
		}
		for pad := range n {
			s, _ := padded(c.r, pad)
			if s == c.s {
				t.Fatalf("%+v: nothing was padded at %d", c.r, pad)
			}
			noRecord(t, "a number not in the fewest bytes", s)
		}
	}
}

// TestL2EachByteTurned turns each byte of each sample into each other one.
func TestL2EachByteTurned(t *testing.T) {
	right := 0
	for _, c := range samples() {
		for i := range c.s {
			for b := range 256 {
				s := []byte(c.s)
				s[i] = byte(b)
				if byRule(t, string(s)) {
					right++
				}
			}
		}
	}
	if right < 1000 {
		t.Errorf("only %d of them are records", right)
	}
}

// TestL2ShortBytes has all texts of up to two bytes, and of three and four of some.
func TestL2ShortBytes(t *testing.T) {
	byRule(t, "")
	for a := range 256 {
		byRule(t, string([]byte{byte(a)}))
		for b := range 256 {
			byRule(t, string([]byte{byte(a), byte(b)}))
			for _, c := range []byte{0, 1, 2, 'a', 127, 128, 255} {
				byRule(t, string([]byte{byte(a), byte(b), c}))
			}
		}
	}
	some := []byte{0, 1, 2, 3, 'a', 127, 128, 255}
	for kind := range 17 {
		for i := range len(some) * len(some) * len(some) {
			byRule(t, string([]byte{byte(kind), some[i%8], some[i/8%8], some[i/64]}))
		}
	}
}

func TestL2Kinds(t *testing.T) {
	for b := range 256 {
		s := string([]byte{byte(b), 1})
		if r, e := record.Decode(s); (e == api.OK) != slices.Contains([]int{1, 6, 7, 9}, b) {
			t.Errorf("Decode(%x) = %+v, %d", s, r, e)
		}
	}
	for _, c := range samples() {
		for _, b := range []byte{0, 16, 17, 128, 129, 255} {
			noRecord(t, "another kind", string([]byte{b})+c.s[1:])
		}
	}
}

func TestL2WrongRows(t *testing.T) {
	for _, row := range []string{
		"", "\x00", "\x01", "\x09" + strings.Repeat("\x00", 9), "\x01\x05", "\x01\xff", "\x01\x00\x00", "\x02\x00", "\x01\x01", "\x01\x01\x80", "\x01\x01\x80\x00", "\x01\x02\x01", "\x01\x02\x81\x00a",
		"\x01\x02\xc9\x01" + strings.Repeat("x", 201), "\xff" + strings.Repeat("\x00", 60), "\x01\x01" + strings.Repeat("\xff", 9) + "\x02",
	} {
		laid := &laying{pad: -1}
		laid.text(row)
		s := string(laid.out)
		noRecord(t, "an insert", "\x03\x01\x02"+s)
		noRecord(t, "a delete", "\x05\x01\x02"+s)
		noRecord(t, "an update of it", "\x04\x01\x02"+s+"\x02\x01\x00")
		noRecord(t, "an update to it", "\x04\x01\x02\x02\x01\x00"+s)
	}
	const row = "\x02\x01\x0e\x02\x01a"
	noRecord(t, "a row that is said to be shorter", "\x03\x01\x02\x05"+row)
	noRecord(t, "a row that is said to be longer", "\x03\x01\x02\x07"+row)
	noRecord(t, "a row that is longer", "\x03\x01\x02\x07"+row+"\x00")
	noRecord(t, "a row without its length", "\x03\x01\x02"+row)
	noRecord(t, "a row of great length", "\x03\x01\x02\xa1\x1f"+strings.Repeat("\x00", 4001))
	noRecord(t, "a row of no length", "\x03\x01\x02"+strings.Repeat("\xff", 9))
}

func TestL2WrongTables(t *testing.T) {
	const head, first, second = "\x01\x01\x01t\x02", "\x02id\x01\x00", "\x04name\x02\x01"
	for _, table := range []string{
		"\x01\x01\x01t\x00\x00", "\x01\x01\x01t\x01" + first + second + "\x00", "\x01\x01\x01t\x03" + first + second + "\x00",
		head + "\x02id\x01\x02" + second + "\x00", head + "\x02id\x01\xff" + second + "\x00", head + first + "\x04name\x02\x02\x00", head + first + "\x04name\x02\x80\x00",
		head + "\x02id\x00\x00" + second + "\x00", head + "\x02id\x04\x00" + second + "\x00", head + "\x02id\x03\x00" + second + "\x00", head + "\x02id\x01\x01" + second + "\x00",
		head + first + first + "\x00", head + first + second + "\x01", head + first + second + "\x02", head + first + second + "\x80", head + first + second, head + first + second + "\x00\x00",
		"\x00\x01\x01t\x01" + first + "\x00", "\x01\x00\x01t\x01" + first + "\x00", "\x01\x01\x00\x01" + first + "\x00", "\x01\x01\x01T\x01" + first + "\x00",
		"\x01\x01\x11abcdefghijklmnopq\x01" + first + "\x00", "\x01\x01\x01t\x01\x11abcdefghijklmnopq\x01\x00\x00",
		"\x80\x80\x80\x80\x08\x01\x01t\x01" + first + "\x00", "\x01\x80\x80\x80\x80\x08\x01t\x01" + first + "\x00",
		"\x01\x01\x01t\xff" + strings.Repeat(first, 255) + "\x00",
	} {
		noRecord(t, "a create", "\x0b\x09"+table)
		noRecord(t, "a widen", "\x0d\x09"+table)
		noRecord(t, "a checkpoint", "\x0f\x01\x09\x01"+table)
	}
	const right = head + first + second + "\x00"
	for _, s := range []string{"\x0b\x09" + right, "\x0d\x09" + right, "\x0f\x01\x09\x01" + right} {
		if !byRule(t, s) {
			t.Errorf("%x is none by the rules", s)
		}
	}
	noRecord(t, "one table, two told", "\x0f\x01\x09\x02"+right)
	noRecord(t, "two tables, one told", "\x0f\x01\x09\x01"+right+right)
	noRecord(t, "none told", "\x0f\x01\x09\x00"+right)
	noRecord(t, "255 told", "\x0f\x01\x09\xff"+strings.Repeat(right, 255))
	noRecord(t, "255 told, one is there", "\x0f\x01\x09\xff"+right)
}

func TestL2GreatInputs(t *testing.T) {
	for kind := range 256 {
		for _, b := range []string{"\x00", "\x01", "\x7f", "\x80", "\xff"} {
			noRecord(t, "great", string([]byte{byte(kind)})+strings.Repeat(b, 1<<16))
		}
	}
}
