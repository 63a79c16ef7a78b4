package session_test

import (
	"fmt"
	"slices"
	"strings"
	"testing"
	"unsafe"

	"confluence/api"
)

// TestListsAreNew: what comes out may be written over: neither the machine nor the store, nor another list, has it.
func TestListsAreNew(t *testing.T) {
	k := newDesk(t, 1)
	for _, open := range []bool{false, true} {
		if open {
			k.all(1, "begin")
		}
		for _, text := range []string{"select * from t", "select n, id, 'x' from t order by id desc", "select * from t limit 1"} {
			a := k.m.Step(1, text)
			want := told(t, a)
			for _, r := range a.Rows {
				r = r[:cap(r)]
				for i := range r {
					r[i] = api.Value{Kind: api.Text, S: "spoilt"}
				}
			}
			all := a.Rows[:cap(a.Rows)]
			clear(all)
			names := a.Names[:cap(a.Names)]
			for i := range names {
				names[i] = "spoilt"
			}
			k.does(1, text, want)
		}
	}
	h := k.m.History()
	want := slices.Clone(h)
	clear(h[:cap(h)])
	if !slices.Equal(k.m.History(), want) {
		t.Errorf("the history is %v, was %v", k.m.History(), want)
	}
	a := k.m.History()
	k.does(1, "commit", "0")
	b := k.m.History()
	clear(a[:cap(a)])
	if !slices.Equal(b[:len(want)], want) || b[len(want)].Text != "commit" {
		t.Errorf("the history is %v", b)
	}
}

// TestHistoryStays: a history that was told does not grow, and what is written behind its end is not seen.
func TestHistoryStays(t *testing.T) {
	k := newDesk(t, 1)
	var told []string
	var lists [][]api.Event
	for i := range 40 {
		l := k.m.History()
		told = append(told, fmt.Sprint(l))
		lists = append(lists, l)
		_ = append(l, api.Event{Text: "spoilt"})
		k.all(1, fmt.Sprintf("insert into t values (%d)", 10+i))
	}
	for i, l := range lists {
		if len(l) != i || fmt.Sprint(l) != told[i] {
			t.Errorf("the history %d is %v, was %s", i, l, told[i])
		}
	}
	for i, e := range k.m.History() {
		if want := fmt.Sprintf("insert into t values (%d)", 10+i); e.Text != want {
			t.Errorf("the event %d is %+v", i, e)
		}
	}
}

// shares tells whether two texts lie in one memory.
func shares(a, b string) bool {
	from, to := uintptr(unsafe.Pointer(unsafe.StringData(a))), uintptr(unsafe.Pointer(unsafe.StringData(b)))
	return a != "" && b != "" && from < to+uintptr(len(b)) && to < from+uintptr(len(a))
}

// TestTextsAreNotKept: nothing that is noted, or answered, lies in the text that was handed in.
func TestTextsAreNotKept(t *testing.T) {
	for _, c := range kinds {
		for _, make := range []func(*testing.T) *desk{kindDesk, opened, broken} {
			k := make(t)
			text := strings.Clone(c.text)
			a := k.m.Step(1, text)
			if shares(k.last().Text, text) {
				t.Errorf("the history keeps %s", text)
			}
			for _, name := range a.Names {
				if shares(name, text) {
					t.Errorf("%s: a name lies in it", text)
				}
			}
		}
	}
	if s := strings.Repeat("x", 9); !shares(s, s[3:5]) || shares(s, strings.Clone(s)) {
		t.Error("what texts share is told wrongly")
	}
}

// TestSameAgain: what a machine answers hangs on the steps alone.
func TestSameAgain(t *testing.T) {
	play := func() (string, string) {
		g := seeded(1399)
		k := newDesk(t, 4)
		out := ""
		for range 1500 {
			out += told(t, k.m.Step(1+g.Intn(4), g.otherwise(g.statement()).text)) + ";"
		}
		return out + fmt.Sprint(k.m.History()), bytesOf(k.d)
	}
	a, left := play()
	b, right := play()
	if a != b || left != right {
		t.Error("the same steps come to something else")
	}
}

// TestGreat: many steps, in little time.
func TestGreat(t *testing.T) {
	k := newDesk(t, 8)
	for i := range 4000 {
		who := 1 + i%8
		k.does(who, fmt.Sprintf("insert into t values (%d, %d)", 100+i, i), "1")
		if i%100 == 0 {
			k.does(who, "delete from t where id > 50", fmt.Sprint(min(i, 99)+1))
		}
	}
	if n := len(k.m.History()); n != 4040 {
		t.Errorf("the history has %d steps", n)
	}
}
