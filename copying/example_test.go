package copying_test

import (
	"testing"

	"confluence/api"
	"confluence/copying"
)

func TestExample1(t *testing.T) {
	k := newDesk(t, r(1, "a"), r(2, "b"))
	l := k.exports(all("t"), "from t.1.1(id*, name) 1(1, 'a') 1(2, 'b') to")
	k.is("how many messages", len(l), 5)
	_, lsn, _ := copying.Export(k.s, all("t"))
	x := newDesk(t)
	n, e := copying.Import(x.s, "pub", l)
	x.ok(e)
	x.is("how many rows", n, 2)
	x.has("t", "(1, 'a') (2, 'b')")
	x.is("the origin", x.s.Origin("pub"), lsn)
	x.refusesBytes(api.ErrCopyThere, l...)
	x.has("t", "(1, 'a') (2, 'b')")
}

func TestExample2(t *testing.T) {
	k := newDesk(t, r(1, "a"))
	l := k.exports(all("none", "other"), "from to")
	x := newDesk(t)
	n, e := copying.Import(x.s, "pub", l)
	x.ok(e)
	x.is("how many rows", n, 0)
	x.is("the origin", x.s.Origin("pub"), k.s.Log().Flushed())
}

func TestExample3(t *testing.T) {
	newDesk(t).refusesBytes(api.ErrCopyForm)
}
