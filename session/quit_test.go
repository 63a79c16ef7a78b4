package session_test

import (
	"fmt"
	"testing"

	"confluence/api"
)

// quits holds a Quit against what it must answer and log; it is no step.
func (k *desk) quits(who int, want api.Errno, logs string) {
	k.t.Helper()
	from, history := k.s.Log().End(), fmt.Sprint(k.m.History())
	if e := k.m.Quit(who); e != want {
		k.t.Errorf("Quit(%d) = %d, want %d", who, e, want)
	}
	if got := k.logged(from); got != logs {
		k.t.Errorf("Quit(%d) logs %s, want %s", who, got, logs)
	}
	if got := fmt.Sprint(k.m.History()); got != history {
		k.t.Errorf("behind Quit(%d) the history is %s, was %s", who, got, history)
	}
	k.stands(who, 0, false)
}

// TestJ9Quit: what is open is aborted; the session may begin anew.
func TestJ9Quit(t *testing.T) {
	k := newDesk(t, 3)
	k.quits(1, api.OK, "")
	k.quits(1, api.OK, "")
	k.all(1, "begin", "insert into t values (3)", "savepoint a", "insert into t values (4)")
	k.all(2, "begin", "insert into t values (5)")
	k.all(3, "begin")
	k.fails(3, "begin", api.ErrQueryInside)
	k.quits(1, api.OK, "abort 3")
	k.stands(2, 5, false)
	k.quits(3, api.OK, "abort 6")
	k.quits(3, api.OK, "")
	k.does(2, "commit", "0")
	k.sees(0, "(1, 10) (2, 20) (5, null)")
	k.fails(1, "commit", api.ErrQueryOutside)
	k.does(1, "insert into t values (3)", "1")
	k.does(3, "begin", "0")
	k.stands(3, 8, false)
	k.all(2, "begin", "prepare 'w'")
	k.quits(2, api.OK, "")
	if got := fmt.Sprint(k.s.Prepared(), k.s.Active()); got != "[w] [8]" {
		t.Errorf("there are left %s", got)
	}
	for _, who := range []int{0, 4, -1, 99} {
		k.quits(who, api.ErrSessionNone, "")
	}
	k.stands(3, 8, false)
}

// TestJ9QuitRefused: the store's error is told, and none is open any more.
func TestJ9QuitRefused(t *testing.T) {
	for _, dies := range []bool{true, false} {
		for i, make := range []func(*testing.T) *desk{kindDesk, opened, broken} {
			k := make(t)
			want := api.ErrStoreDoubt
			if k.doubt(dies) == "error 2" {
				want = api.ErrDead
			}
			if i == 0 {
				want = api.OK // nothing is asked of the store
			}
			k.quits(1, want, "")
			k.quits(1, api.OK, "")
			k.quits(0, api.ErrSessionNone, "")
			k.quits(3, api.ErrSessionNone, "")
		}
	}
	k := opened(t)
	k.ok(k.d.Arm(1))
	k.quits(1, api.ErrDead, "")
	k.quits(1, api.OK, "")
}
