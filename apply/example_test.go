package apply_test

import (
	"testing"

	"confluence/api"
)

func TestExample1(t *testing.T) {
	k := newDesk(t)
	l := []api.Message{begin(5, 8300), head(nine()), insert(9, 1, "a"), commit(5, 8300, 8320)}
	k.takes(l...)
	k.has("t", "(1, 'a', null)")
	k.stands(8320, tally(1, 1, 0, 0, 0), false)
	k.logs("", l...)
	k.has("t", "(1, 'a', null)")
	k.stands(8320, tally(1, 1, 0, 0, 0), false)
}

func TestExample2(t *testing.T) {
	for _, committed := range []bool{true, false} {
		k := newDesk(t)
		k.takes(whole(5, 8300, head(nine()), insert(9, 1, "a"))...)
		k.idly(insert(9, 1, "b"), api.ErrApplyOrder)
		x, e := k.s.Begin()
		k.ok(e, k.s.Update(x, "t", r(1, "a", "x")))
		if committed {
			_, e := k.s.Commit(x)
			k.ok(e)
		}
		k.takes(begin(6, 8400), head(nine()))
		if !committed {
			k.fails(update(9, r(1, "a"), r(1, "b")), api.ErrApplyFailed)
			k.has("t", "(1, 'a', null)")
			continue
		}
		k.takes(update(9, r(1, "a"), r(1, "b")), commit(6, 8400, 8420))
		k.has("t", "(1, 'b', 'x')")
		k.stands(8420, tally(2, 1, 1, 0, 0), false)
	}
}
