package spill_test

import (
	"fmt"
	"math"
	"math/rand"
	"strings"
	"testing"

	"confluence/api"
	"confluence/code"
	"confluence/value"
)

// formOf holds a file of these bytes against what a cursor tells of it.
func formOf(t *testing.T, what, bytes string, end api.Errno, want ...api.Change) {
	t.Helper()
	d, s := begun(t, 1000000)
	writes(t, s, 7, api.OK, change(1, 7))
	replace(t, d, named(7, 0), bytes)
	c := cursor(t, s, 7, 0)
	failed := t.Failed()
	tells(t, c, want...)
	ends(t, c, end)
	if t.Failed() && !failed {
		t.Errorf("this was %s: %q", what, bytes)
	}
}

// plain has the numbers of a right change and its rows' bytes, one of each spoilt by whoever asks.
type plain struct {
	lsn, xid, kind, table int
	from, to              string
}

func (p plain) payload() string { return payloadOf(p.lsn, p.xid, p.kind, p.table, p.from, p.to) }

func rightPlain() plain {
	return plain{5, 7, api.RecUpdate, 3, rowBytes(row(number(5))), rowBytes(row(api.Value{}, text("x")))}
}

// wrongPayloads are payloads that no right change has, each in a frame that is right.
func wrongPayloads() map[string]string {
	right := rightPlain()
	l := map[string]string{"nothing": "", "a byte more": right.payload() + "\x00", "many bytes more": right.payload() + right.payload()}
	add := func(what string, f func(p *plain)) {
		p := right
		f(&p)
		l[what] = p.payload()
	}
	add("Lsn 0", func(p *plain) { p.lsn = 0 })
	add("Xid 0", func(p *plain) { p.xid = 0 })
	add("Xid above the last", func(p *plain) { p.xid = api.MaxXid + 1 })
	add("the greatest Xid", func(p *plain) { p.xid = math.MaxInt })
	add("Table 0", func(p *plain) { p.table = 0 })
	for kind := range 256 {
		if kind < api.RecInsert || kind > api.RecDelete {
			add(fmt.Sprint("Kind ", kind), func(p *plain) { p.kind = kind })
		}
	}
	for what, bytes := range wrongRowBytes() {
		add("Old: "+what, func(p *plain) { p.from = bytes })
		add("New: "+what, func(p *plain) { p.to = bytes })
	}
	tail := rightPlain().payload()[1:]
	l["Lsn in another form"] = "\x85\x00" + tail
	l["Lsn too great"] = strings.Repeat("\xff", 9) + tail
	l["Xid in another form"] = "\x05\x87\x00\x04\x03\x01\x00\x01\x00"
	l["Table in another form"] = "\x05\x07\x04\x83\x00\x01\x00\x01\x00"
	l["a length in another form"] = "\x05\x07\x04\x03\x81\x00\x00\x01\x00"
	l["the last length in another form"] = "\x05\x07\x04\x03\x01\x00\x81\x00\x00"
	l["no New"] = "\x05\x07\x04\x03\x01\x00"
	for n := range len(right.payload()) {
		l[fmt.Sprint("cut to ", n)] = right.payload()[:n]
	}
	return l
}

// wrongRowBytes are bytes that layer 4 does not take.
func wrongRowBytes() map[string]string {
	return map[string]string{
		"no bytes":                  "",
		"nine values":               "\x09" + strings.Repeat("\x00", 9),
		"a value too few":           "\x02\x00",
		"a value too many":          "\x01\x00\x00",
		"no kind":                   "\x01\x05",
		"an Int in another form":    "\x01\x01\x82\x00",
		"a Text that is too long":   "\x01\x02\xc9\x01" + strings.Repeat("x", 201),
		"a Text that is cut":        "\x01\x02\x03ab",
		"as long as it may be":      "\x00" + strings.Repeat("\x00", 1699),
		"longer than it may be":     "\x00" + strings.Repeat("\x00", 1700),
		"the longest row, and more": rowBytes(wide()) + "\x00",
	}
}

func TestS5WrongPayloads(t *testing.T) {
	ahead, behind := change(8, 9), laid(change(9, 9))
	for what, payload := range wrongPayloads() {
		formOf(t, what, framed(payload), api.ErrSpillForm)
		formOf(t, what, laid(ahead)+framed(payload)+behind, api.ErrSpillForm, ahead)
	}
}

func TestS5WrongFrames(t *testing.T) {
	good := laid(change(5, 7))
	long := "\xc7\x0f\xa1" + strings.Repeat("\x00", 4005)
	for what, bytes := range map[string]string{
		"a nought": "\x00", "noughts": strings.Repeat("\x00", 10000), "another byte": "x", "another byte ahead": "x" + good,
		"a nought ahead": "\x00" + good, "the mark alone": "\xc7", "a head": good[:7], "a payload": good[7:], "too long a one": long,
		"the mark many times": strings.Repeat("\xc7", 10000),
	} {
		formOf(t, what, bytes, api.ErrSpillForm)
		formOf(t, what, good+bytes, api.ErrSpillForm, change(5, 7))
	}
	formOf(t, "nothing", "", api.OK)
}

// TestS5RightForms: what is right need be no more than that: the positions need not rise, nor the numbers be the segment's.
func TestS5RightForms(t *testing.T) {
	formOf(t, "one twice", laid(change(5, 7), change(5, 7)), api.OK, change(5, 7), change(5, 7))
	formOf(t, "falling ones", laid(change(5, 7), change(4, 7), change(1, 2)), api.OK, change(5, 7), change(4, 7), change(1, 2))
	l := rightChanges()
	formOf(t, "the edges", laid(l...), api.OK, l...)
	for kind := range 256 {
		c := with(func(c *api.Change) { c.Kind = kind })
		if kind >= api.RecInsert && kind <= api.RecDelete {
			formOf(t, "a kind", laid(c), api.OK, c)
		} else {
			formOf(t, "a kind", laid(c), api.ErrSpillForm)
		}
	}
}

// ruled is the change with which a text begins, and its bytes, by the chapter's words: what is taken, laid down again, must be the same bytes, and be right.
func ruled(s string) (api.Change, int, bool) {
	payload, n, e := code.Unframe(s)
	if e != api.OK {
		return api.Change{}, 0, false
	}
	r := code.NewReader(payload)
	c := api.Change{Lsn: r.Var(), Xid: r.Var(), Kind: r.Byte(), Table: r.Var()}
	c.Old, _ = value.Decode(r.Text(1700))
	c.New, _ = value.Decode(r.Text(1700))
	kinds := map[int]int{api.RecInsert: 1, api.RecUpdate: 1, api.RecDelete: 1}
	if c.Lsn < 1 || c.Table < 1 || c.Xid < 1 || c.Xid > 2147483647 || kinds[c.Kind] == 0 || laid(c) != s[:n] {
		return api.Change{}, 0, false
	}
	return c, n, true
}

// ruledAll has the changes of a file's bytes, and how it ends.
func ruledAll(s string) ([]api.Change, api.Errno) {
	var l []api.Change
	for s != "" {
		c, n, ok := ruled(s)
		if !ok {
			return l, api.ErrSpillForm
		}
		l = append(l, c)
		s = s[n:]
	}
	return l, api.OK
}

// TestS5AnyBytes: random bytes, and right ones of which some were changed within their frames, held against the words.
func TestS5AnyBytes(t *testing.T) {
	source := rand.New(rand.NewSource(14))
	right := 0
	for range 20000 {
		bytes := someBytes(source)
		l, end := ruledAll(bytes)
		right += len(l)
		formOf(t, "random", bytes, end, l...)
	}
	if right < 10000 {
		t.Errorf("only %d changes were right", right)
	}
}

func someBytes(source *rand.Rand) string {
	out := ""
	for range 1 + source.Intn(4) {
		switch source.Intn(10) {
		case 0:
			b := make([]byte, source.Intn(30))
			source.Read(b)
			out += string(b)
		case 1:
			b := make([]byte, source.Intn(30))
			source.Read(b)
			out += framed(string(b))
		case 2, 3, 4:
			out += framed(nudged(source, rightPlain().payload()))
		case 5:
			out += nudged(source, laid(someChange(source, 1+source.Intn(1000))))
		default:
			out += laid(someChange(source, 1+source.Intn(1000)))
		}
	}
	return out
}

// nudged has a byte changed, left out or put in.
func nudged(source *rand.Rand, s string) string {
	i := source.Intn(len(s))
	b := string([]byte{[]byte{0, 1, 2, 3, 4, 5, 127, 128, 129, 199, 255}[source.Intn(11)]})
	switch source.Intn(4) {
	case 0:
		return s[:i] + s[i+1:]
	case 1:
		return s[:i] + b + s[i:]
	default:
		return s[:i] + b + s[i+1:]
	}
}

// someChange is a right one at a position.
func someChange(source *rand.Rand, lsn int) api.Change {
	return api.Change{Lsn: lsn, Xid: 1 + source.Intn(20), Kind: api.RecInsert + source.Intn(3), Table: 1 + source.Intn(200), Old: someRow(source), New: someRow(source)}
}

func someRow(source *rand.Rand) api.Row {
	var r api.Row
	for range source.Intn(4) {
		switch source.Intn(4) {
		case 0:
			r = append(r, api.Value{})
		case 1:
			r = append(r, number(int(source.Uint64())>>source.Intn(64)))
		case 2:
			r = append(r, truth(source.Intn(2)))
		default:
			b := make([]byte, source.Intn(12))
			source.Read(b)
			r = append(r, text(string(b)))
		}
	}
	return r
}
