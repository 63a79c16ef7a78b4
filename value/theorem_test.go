package value_test

import (
	"math/rand"
	"slices"
	"strings"
	"testing"

	"confluence/api"
	"confluence/value"
)

// holdV8 holds what follows of one right value.
func holdV8(t *testing.T, v api.Value) {
	t.Helper()
	if p, e := value.Parse(value.Print(v)); p != v || e != api.OK {
		t.Fatalf("%+v is printed as %s, and parsed as %+v, %d", v, value.Print(v), p, e)
	}
	k, e := value.Key(v)
	if u, f := value.Unkey(k); u != v || e != api.OK || f != api.OK {
		t.Fatalf("%+v has the key %x, %d, which is that of %+v, %d", v, k, e, u, f)
	}
}

func holdRow(t *testing.T, r api.Row) {
	t.Helper()
	s, e := value.Encode(r)
	again, f := value.Decode(s)
	if !slices.Equal(again, r) || !value.Same(again, r) || e != api.OK || f != api.OK {
		t.Fatalf("%+v is encoded as %x, %d, and decoded as %+v, %d", r, s, e, again, f)
	}
}

func TestV8BackAgain(t *testing.T) {
	for _, v := range ordered {
		holdV8(t, v)
		holdRow(t, api.Row{v})
	}
	source := rand.New(rand.NewSource(45))
	for range 20000 {
		r := make(api.Row, source.Intn(api.MaxColumns+1))
		for i := range r {
			r[i] = randomRight(source)
			holdV8(t, r[i])
		}
		holdRow(t, r)
	}
}

func TestV8KeysStandInOrder(t *testing.T) {
	hold := func(a, b api.Value) {
		x, _ := value.Key(a)
		y, _ := value.Key(b)
		if c := strings.Compare(x, y); c != value.Compare(a, b) {
			t.Fatalf("the keys of %+v, %+v stand by %d: %x, %x", a, b, c, x, y)
		}
	}
	for _, a := range ordered {
		for _, b := range ordered {
			hold(a, b)
		}
	}
	source := rand.New(rand.NewSource(46))
	for range 50000 {
		hold(randomRight(source), randomRight(source))
		n := randomInt(source)
		hold(number(n), number(n+source.Intn(3)-1))
		s := randomText(source, api.MaxText-2)
		hold(text(s), text(s+randomText(source, 2)))
	}
}

func TestExamples(t *testing.T) {
	if value.Compare(no, number(-5)) != -1 || value.Compare(text("a"), text("ab")) != -1 || value.Compare(null, null) != 0 {
		t.Error("example 1")
	}
	is(t, "example 2", value.Fits(null, api.Column{Kind: api.Int, Null: true}), api.OK)
	is(t, "example 2", value.Fits(number(5), api.Column{Kind: api.Text}), api.ErrValueKind)
	if s, e := value.Encode(api.Row{number(5), null, text("a"), yes}); s != "\x04\x01\x0a\x00\x02\x01\x61\x04" || e != api.OK {
		t.Errorf("example 3: %x, %d", s, e)
	}
	if s := value.Print(text("it's\x5c\x0a")); s != `'it''s\5c\0a'` {
		t.Errorf("example 4: %s", s)
	}
	for _, s := range []string{"-0", "05", "'a", "NULL", `'\41'`} {
		wantNotParsed(t, s, api.ErrValueForm)
	}
	if s, e := value.Key(number(-1)); s != "\x03\x7f"+strings.Repeat("\xff", 7) || e != api.OK {
		t.Errorf("example 5: %x, %d", s, e)
	}
}
