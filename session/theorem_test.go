package session_test

import (
	"fmt"
	"maps"
	"slices"
	"strconv"
	"strings"
	"testing"

	"confluence/api"
)

// rows are those of the table t, by their keys: the other value in words.
type rows map[int]string

// gone stands in place of the value of a row that was deleted.
const gone = ""

// put lays writes upon them.
func (r rows) put(writes rows) {
	for key, n := range writes {
		if r[key] = n; n == gone {
			delete(r, key)
		}
	}
}

func (r rows) text() string {
	out := fmt.Sprint(len(r), " [id|n]")
	for _, key := range slices.Sorted(maps.Keys(r)) {
		out += fmt.Sprintf(" (%d, %s)", key, r[key])
	}
	return out
}

// level is what a transaction has written behind a savepoint (the first one: behind its begin).
type level struct {
	name   string
	writes rows
}

// tale is what the history tells of a transaction.
type tale struct {
	began, ended int // which steps; ended 0: it is not committed
	ahead        rows
	levels       []level
}

func (x *tale) own() rows {
	all := rows{}
	for _, l := range x.levels {
		maps.Copy(all, l.writes)
	}
	return all
}

func (x *tale) sees() rows {
	all := maps.Clone(x.ahead)
	all.put(x.own())
	return all
}

// writes notes that a row was written.
func (x *tale) writes(key int, n string) { x.levels[len(x.levels)-1].writes[key] = n }

// savepoint is the place of the last one of a name.
func (x *tale) savepoint(name string) int {
	for i, l := range slices.Backward(x.levels) {
		if l.name == name {
			return i
		}
	}
	return 0
}

// teller holds a history, and what its Selects told, against J10. It knows of no store: the history alone tells it what was done.
type teller struct {
	t     *testing.T
	fold  rows
	tales map[int]*tale
	waits map[string]int
	came  map[string]int
}

// takes takes an event, the step of that number, and what was answered.
func (h *teller) takes(step int, e api.Event, answer string) {
	h.t.Helper()
	verb := strings.Fields(e.Text)
	if e.Code != api.OK {
		h.came["refused"]++
		return // it has no effect: if its transaction was open, only what takes it back may follow
	}
	x := h.tales[e.Xid]
	if x == nil && e.Xid != 0 {
		x = &tale{began: step, ahead: maps.Clone(h.fold), levels: []level{{writes: rows{}}}}
		h.tales[e.Xid] = x
	}
	switch verb[0] {
	case "insert":
		for _, row := range strings.Split(strings.TrimPrefix(e.Text, "insert into t values "), "), ") {
			pair := strings.Split(strings.Trim(row, "()"), ", ")
			x.writes(number(pair[0]), pair[1])
		}
	case "update": // update t set n = N where id >= K
		for key := range x.sees() {
			if key >= number(verb[9]) {
				x.writes(key, verb[5])
			}
		}
	case "delete": // delete from t where id = K
		if _, is := x.sees()[number(verb[6])]; is {
			x.writes(number(verb[6]), gone)
		}
	case "select":
		h.came["select"]++
		if want := x.sees().text(); answer != want {
			h.t.Fatalf("step %d, %+v: %s, want %s", step, e, answer, want)
		}
	case "savepoint":
		x.levels = append(x.levels, level{verb[1], rows{}})
	case "release":
		at := x.savepoint(verb[1])
		for _, l := range x.levels[at:] {
			maps.Copy(x.levels[at-1].writes, l.writes)
		}
		x.levels = x.levels[:at]
	case "rollback":
		if len(verb) == 3 && verb[1] == "to" {
			at := x.savepoint(verb[2])
			x.levels = append(x.levels[:at], level{verb[2], rows{}})
			h.came["back"]++
		}
	case "prepare":
		h.waits[verb[1]] = e.Xid
	}
	if e.Lsn != 0 && verb[0] != "create" {
		if verb[0] == "commit" && len(verb) == 3 {
			x = h.tales[h.waits[verb[2]]]
			h.came["waited"]++
		}
		h.commits(step, x)
	}
}

// commits lets a transaction be committed: no row may have been written by it and by another one that was open with it.
func (h *teller) commits(step int, x *tale) {
	h.t.Helper()
	x.ended = step
	h.fold.put(x.own())
	for other, y := range h.tales {
		if y == x || y.ended == 0 || y.ended < x.began {
			continue
		}
		h.came["beside"]++
		for key := range x.own() {
			if _, is := y.own()[key]; is {
				h.t.Fatalf("step %d: the row %d was also written by %d, which was open at the same time", step, key, other)
			}
		}
	}
}

func number(s string) int {
	n, e := strconv.Atoi(s)
	if e != nil {
		panic(s)
	}
	return n
}

// tellable is a statement that a teller understands.
func (g gen) tellable() string {
	key, n := 1+g.Intn(12), g.Intn(1000)
	switch g.Intn(22) {
	case 0, 1, 2:
		return fmt.Sprintf("insert into t values (%d, %d)", key, n)
	case 3, 4:
		return fmt.Sprintf("insert into t values (%d, %d), (%d, null)", key, n, 1+g.Intn(12))
	case 5, 6:
		return fmt.Sprintf("update t set n = %d where id >= %d", n, 5+g.Intn(8))
	case 7, 8:
		return fmt.Sprintf("delete from t where id = %d", key)
	case 9, 10, 11, 12:
		return "select * from t"
	case 13, 14:
		return "begin"
	case 15:
		return "savepoint " + pick(g, "a", "b")
	case 16, 17:
		return "rollback to " + pick(g, "a", "b")
	case 18:
		return pick(g, "release a", "release b", "rollback")
	case 19:
		return pick(g, "prepare 'v'", "prepare 'w'")
	case 20:
		return pick(g, "commit prepared 'v'", "commit prepared 'w'", "rollback prepared 'v'", "rollback prepared 'w'")
	}
	return "commit"
}

// TestJ10Theorem: of the history alone: what each Select tells, that no row was written by two that were open at one time
// and are both committed, and that what was refused has no effect.
func TestJ10Theorem(t *testing.T) {
	came := map[string]int{}
	for seed := range int64(250) {
		g := seeded(1380 + seed)
		n := 1 + g.Intn(8)
		k := on(t, formatted(t, room), n)
		k.does(1, "create table t (id int key, n int)", "0")
		answers := []string{"0"}
		for range 500 {
			who := 1 + g.Intn(n)
			answers = append(answers, told(t, k.m.Step(who, g.tellable())))
			if g.once(100) {
				k.ok(k.m.Quit(1 + g.Intn(n)))
			}
		}
		h := &teller{t: t, fold: rows{}, tales: map[int]*tale{}, waits: map[string]int{}, came: came}
		l := k.m.History()
		if len(l) != len(answers) {
			t.Fatalf("of %d steps the history has %d", len(answers), len(l))
		}
		for i, e := range l {
			h.takes(i, e, answers[i])
		}
		if got, want := told(t, k.m.Step(n, "select * from t")), h.fold.text(); k.m.Xid(n) == 0 && got != want {
			t.Fatalf("at the end there is %s, want %s", got, want)
		}
	}
	for _, what := range []string{"select", "refused", "back", "waited", "beside"} {
		if came[what] < 100 {
			t.Errorf("%s came only %d times", what, came[what])
		}
	}
}
