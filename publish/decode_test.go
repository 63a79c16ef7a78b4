package publish_test

import (
	"slices"
	"strings"
	"testing"

	"confluence/api"
	"confluence/publish"
)

// byRule holds what Decode says of any bytes against the rules, and tells whether they are a message's.
func byRule(t *testing.T, s string) bool {
	t.Helper()
	want, ok := takenByRule(s)
	if !ok {
		noMessage(t, "by the rules", s)
		return false
	}
	if m, e := publish.Decode(s); !equal(m, want) || e != api.OK {
		t.Errorf("Decode(%x) = %+v, %d, want %+v", s, m, e, want)
	}
	if again, e := publish.Encode(want); again != s || e != api.OK {
		t.Errorf("Encode(%+v) = %x, %d, want %x", want, again, e, s)
	}
	return true
}

func TestU1BytesOfEachKind(t *testing.T) {
	for _, c := range samples() {
		m, e := publish.Decode(c.s)
		if !equal(m, c.m) || e != api.OK {
			t.Errorf("Decode(%x) = %+v, %d, want %+v", c.s, m, e, c.m)
		}
		if !byRule(t, c.s) {
			t.Errorf("%x is none by the rules", c.s)
		}
	}
}

func TestU1CutAndMore(t *testing.T) {
	for _, c := range samples() {
		for i := range c.s {
			noMessage(t, "cut", c.s[:i])
			noMessage(t, "cut at the front", c.s[i+1:]+"\xff")
		}
		for b := range 256 {
			noMessage(t, "a byte more", c.s+string([]byte{byte(b)}))
		}
		noMessage(t, "many more", c.s+strings.Repeat("\x00", 1<<16))
		noMessage(t, "twice", c.s+c.s)
	}
}

func TestU1NumbersOfTooManyBytes(t *testing.T) {
	for _, c := range samples() {
		_, n := padded(c.m, -1)
		if n < 1 {
			t.Fatalf("%+v has no number", c.m)
		}
		for pad := range n {
			s, _ := padded(c.m, pad)
			if s == c.s {
				t.Fatalf("%+v: nothing was padded at %d", c.m, pad)
			}
			noMessage(t, "a number not in the fewest bytes", s)
		}
	}
	for _, s := range []string{"\x06\x80\x80\x80\x80\x80\x80\x80\x80\x01", "\x06\xff\xff\xff\xff\xff\xff\xff\xff\x7f", "\x06\xff\xff\xff\xff\xff\xff\xff\xff\xff\x01", "\x06" + strings.Repeat("\x81", 100), "\x06\x81" + strings.Repeat("\x80", 100) + "\x01"} {
		noMessage(t, "a number that is too great", s)
	}
}

// TestU1EachByteTurned turns each byte of each sample into each other one.
func TestU1EachByteTurned(t *testing.T) {
	right := 0
	for _, c := range samples() {
		for i := range c.s {
			for b := range 256 {
				s := []byte(c.s)
				s[i] = byte(b)
				if byRule(t, string(s)) {
					right++
				}
			}
		}
	}
	if right < 1000 {
		t.Errorf("only %d of them are messages", right)
	}
}

// TestU1ShortBytes has all texts of up to two bytes, and longer ones of some.
func TestU1ShortBytes(t *testing.T) {
	byRule(t, "")
	some := []byte{0, 1, 2, 'a', 127, 128, 255}
	for a := range 256 {
		byRule(t, string([]byte{byte(a)}))
		for b := range 256 {
			byRule(t, string([]byte{byte(a), byte(b)}))
			for _, c := range some {
				byRule(t, string([]byte{byte(a), byte(b), c}))
				for _, d := range some {
					byRule(t, string([]byte{byte(a), byte(b), c, d}))
				}
			}
		}
	}
}

// TestU1BytesOfRows: rows that are told otherwise than value.Encode does, or are none.
func TestU1BytesOfRows(t *testing.T) {
	for _, r := range []string{"", "\x00", "\x00\x00", "\x01", "\x01\x05", "\x01\xff", "\x01\x00\x00", "\x02\x00", "\x09" + strings.Repeat("\x00", 9), "\x01\x01", "\x01\x01\x80\x00", "\x01\x01\x80", "\x01\x02\x02a", "\x01\x02\x81\x00a", "\x01\x02\xc9\x01" + full + "x"} {
		s := string([]byte{byte(len(r)%128 + 128), byte(len(r) / 128)}) + r
		if len(r) < 128 {
			s = string([]byte{byte(len(r))}) + r
		}
		noMessage(t, "an insert", "\x03\x01"+s)
		noMessage(t, "a delete", "\x05\x01"+s)
		noMessage(t, "an update's first", "\x04\x01"+s+"\x02\x01\x00")
		noMessage(t, "an update's second", "\x04\x01\x02\x01\x00"+s)
	}
	// Of as many bytes as a row may have, and of one more, there is none.
	for _, n := range []int{1626, 1699, 1700, 1701, 1 << 16} {
		l := &laying{pad: -1}
		l.text("\x08" + strings.Repeat("\x00", n-1))
		noMessage(t, "a long row", "\x03\x01"+string(l.out))
	}
}

// TestU1BytesOfTables: what may be null is told by 0 or 1, and by nothing else.
func TestU1BytesOfTables(t *testing.T) {
	head, tail := "\x02\x01\x01\x01t\x02\x02id\x01", "\x01x\x03\x00\x00"
	if !byRule(t, head+"\x00"+tail) {
		t.Errorf("no message")
	}
	for b := 1; b < 256; b++ {
		noMessage(t, "the key", head+string([]byte{byte(b)})+tail)
	}
	for b := range 256 {
		s := head + "\x00\x01x\x03" + string([]byte{byte(b)}) + "\x00"
		if byRule(t, s) != (b < 2) {
			t.Errorf("Decode(%x)", s)
		}
	}
	noMessage(t, "a great many columns", "\x02\x01\x01\x01t\xff")
	noMessage(t, "as many as it says", "\x02\x01\x01\x01t\xff"+strings.Repeat("\x01a\x01\x00", 255)+"\x00")
	for n := range 12 {
		x := thing()
		x.Columns = columns(n)
		if byRule(t, laidByRule(msgTable(x))) != (n >= 1 && n <= 8) {
			t.Errorf("%d columns", n)
		}
	}
}

// TestU1ListsOfWhatIsRead: a kind has no lists but its own.
func TestU1ListsOfWhatIsRead(t *testing.T) {
	for _, c := range samples() {
		m, _ := publish.Decode(c.s)
		has := func(field string) bool { return slices.Contains(fieldsOf[m.Kind], field) }
		if len(m.Old) > 0 != has("Old") || len(m.New) > 0 != has("New") || len(m.Tab.Columns) > 0 != has("Tab") {
			t.Errorf("Decode(%x) = %+v", c.s, m)
		}
	}
}
