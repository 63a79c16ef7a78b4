package apply_test

import (
	"math/rand"
	"slices"
	"strings"
	"testing"

	"confluence/api"
	"confluence/publish"
)

// noMessages are bytes that are none.
func noMessages(t *testing.T) []string {
	t.Helper()
	l := []string{"", "junk", "\x00", "\x0a", "\xff", "\x01", strings.Repeat("\x01", 5000), "\x01\x00\x88\x40", "\x01\x02\x00", "\x03\x09\x01\x00", "\x05\x09\x01\x00", "\x04\x09\x03\x01\x01\x02\x01\x00", "\x04\x09\x01\x00\x03\x01\x01\x02", "\x06\x00", "\x08\x00", "\x07\x05\xa8\x46\xa8\x46"}
	for _, s := range laid(t, append(append(each(), never()...), begin(5, 9000))...) {
		l = append(l, s[:len(s)-1], s+"\x00", " "+s, s[1:], s+s)
	}
	return l
}

// TestNoMessage: bytes that are no message are refused wherever they come, and change nothing: a transaction goes on.
func TestNoMessage(t *testing.T) {
	l := noMessages(t)
	k := newDesk(t)
	for _, s := range l {
		k.bytesIdly(s, api.ErrApplyMessage)
	}
	k.takes(begin(5, 9000))
	for i, m := range each() {
		for _, s := range l {
			k.bytesIdly(s, api.ErrApplyMessage)
		}
		k.takes(m)
		if i < 5 {
			k.takes(insert(9, 7, "g"))
		}
	}
	k.has("t", "(7, 'g', null)")
	k.takes(begin(4, 8900))
	for _, s := range l {
		k.bytesIdly(s, api.ErrApplyMessage)
	}
	k.idlyTaken(commit(4, 8900, 8901))
}

// TestNoMessageInDoubt: that comes ahead of the doubt, and leaves the applier where it is.
func TestNoMessageInDoubt(t *testing.T) {
	k := newDesk(t)
	b := k.beside("other")
	k.takes(begin(5, 9000))
	b.takes(begin(5, 9000))
	k.ok(k.d.FailSync(1))
	b.answers(commit(5, 9000, 9020), api.ErrStoreDoubt)
	for _, s := range noMessages(t) {
		k.bytesIdly(s, api.ErrApplyMessage)
		b.bytesIdly(s, api.ErrApplyMessage)
	}
	k.stands(0, api.Tally{}, true)
	b.stands(0, api.Tally{}, false)
	k.answers(never()[0], api.ErrStoreDoubt)
	k.stands(0, api.Tally{}, false)
}

// TestAnyBytes: bytes of messages that were turned, put in or taken away: what publish.Decode refuses is ErrApplyMessage, and all else is not, but where the chapter says so.
func TestAnyBytes(t *testing.T) {
	source := rand.New(rand.NewSource(221))
	all := laid(t, append(append(each(), never()...), begin(5, 9000))...)
	k := newDesk(t)
	right := 0
	for range 20000 {
		s := []byte(all[source.Intn(len(all))])
		for range source.Intn(3) {
			at := source.Intn(len(s))
			switch source.Intn(3) {
			case 0:
				s[at] = byte(source.Intn(256))
			case 1:
				s = slices.Insert(s, at, byte(source.Intn(4)))
			case 2:
				if len(s) > 1 {
					s = slices.Delete(s, at, at+1)
				}
			}
		}
		m, wrong := publish.Decode(string(s))
		if wrong != api.OK {
			k.bytesIdly(string(s), api.ErrApplyMessage)
			continue
		}
		right++
		inside := k.a.Inside()
		e := k.a.Take(string(s))
		if e == api.ErrApplyMessage && (!inside || k.a.Inside() || m.Kind < api.MsgInsert || m.Kind > api.MsgDelete) {
			t.Errorf("Take(%x), %+v: %d", s, m, e)
		}
	}
	if right < 5000 {
		t.Errorf("only %d were messages", right)
	}
}
