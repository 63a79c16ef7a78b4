package apply_test

import (
	"fmt"
	"strings"
	"testing"

	"confluence/api"
	"confluence/apply"
)

func TestNewNames(t *testing.T) {
	k := newDesk(t)
	before := bytesOf(k.d)
	for _, name := range []string{"a", "z", "pub", "a0", "a9", "a_", "x__", "abcdefghijklmnop", "a123456789012345", "a_______________"} {
		b := k.beside(name)
		b.stands(0, api.Tally{}, false)
	}
	for _, name := range []string{"", "_", "0", "_a", "9a", "A", "aA", "P", " ", " a", "a ", "a b", "a-", "a.b", "\x00", "a\x00", "a\n", "a`", "a{", "é", "aé", "\xff", "'a'", "abcdefghijklmnopq", "abcdefghijklmnoP", strings.Repeat("a", 17), strings.Repeat("a", 272), strings.Repeat("a", 1<<16)} {
		if a, e := apply.New(k.s, name); a != nil || e != api.ErrArg {
			t.Errorf("New(%.40q): %v, %d", name, a, e)
		}
	}
	if bytesOf(k.d) != before {
		t.Error("New has changed the disk")
	}
}

// TestNewOfOneFollowed: what is new has done nothing, but goes on where the origin was followed.
func TestNewOfOneFollowed(t *testing.T) {
	k := newDesk(t)
	k.takes(whole(5, 8300, head(nine()), insert(9, 1, "a"))...)
	k.beside("pub").stands(8320, api.Tally{}, false)
	k.beside("other").stands(0, api.Tally{}, false)
	k.takes(begin(6, 8400))
	k.beside("pub").stands(8320, api.Tally{}, false)
	k.crash()
	k.stands(8320, api.Tally{}, false)
	k.takes(whole(5, 8300, head(nine()), insert(9, 2, "b"))...)
	k.has("t", "(1, 'a', null)")
	k.stands(8320, api.Tally{}, false)
}

// TestNewOfDoubt: New asks nothing of a store, be it in doubt or dead.
func TestNewOfDoubt(t *testing.T) {
	k := newDesk(t)
	k.takes(whole(5, 8300)...)
	k.ok(k.d.FailSync(1))
	k.takes(begin(6, 8400))
	k.answers(commit(6, 8400, 8420), api.ErrStoreDoubt)
	if a, e := apply.New(k.s, "A"); a != nil || e != api.ErrArg {
		t.Errorf("New: %v, %d", a, e)
	}
	b := k.beside("pub")
	b.stands(0, api.Tally{}, false)
	b.answers(begin(6, 8400), api.ErrStoreDoubt)
}

// TestManyOrigins: appliers of one store, each of an origin of its own, have only their rows in common.
func TestManyOrigins(t *testing.T) {
	k := newDesk(t)
	var l []*desk
	for i := range 20 {
		l = append(l, k.beside(fmt.Sprint("o", i)))
	}
	for i, b := range l {
		b.takes(whole(5, 8300+i, head(nine()), insert(9, i, "a"))...)
	}
	for i, b := range l {
		b.stands(8320+i, tally(1, 1, 0, 0, 0), false)
		b.takes(begin(6, 9000-i))
	}
	k.is("how many are open", len(k.s.Active()), 20)
	for i, b := range l {
		b.takes(head(nine()), update(9, r(i, "a"), r(i, "b")), commit(6, 9000-i, 9100-i))
		b.stands(9100-i, tally(2, 1, 1, 0, 0), false)
	}
	k.stands(0, api.Tally{}, false)
	k.is("rows", strings.Count(k.rows(0, "t"), "'b'"), 20)
}
