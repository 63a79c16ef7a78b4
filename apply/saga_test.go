package apply_test

import (
	"fmt"
	"maps"
	"slices"
	"testing"

	"confluence/api"
	"confluence/publish"
)

// saga is a transaction that is told: where it ends, all its messages, and what there is of all that is told behind it.
type saga struct {
	end      int
	messages []string
	fold     string
}

// teller is a publisher's side: three tables of one form, of which random transactions are told: of the first one all
// columns, of the second the key and n, of the third those rows alone of which n is above 1.
type teller struct {
	t         *testing.T
	g         gen
	names     [3]string
	publisher *publish.Publisher
	rows      [3]map[int]api.Row
	end       int
}

func newTeller(t *testing.T, g gen, names ...string) *teller {
	t.Helper()
	p := api.Publication{Name: "p", Tables: []api.Published{{Table: names[0], Kinds: 15}, {Table: names[1], Kinds: 15, Columns: []string{"n"}}, {Table: names[2], Kinds: 15, Filter: "n > 1"}}}
	x, e := publish.New(p)
	if e != api.OK {
		t.Fatalf("publish.New: %d", e)
	}
	return &teller{t: t, g: g, names: [3]string(names), publisher: x, rows: [3]map[int]api.Row{{}, {}, {}}, end: 8192 + g.Intn(100)}
}

// makes makes the tables of a subscriber that follow those.
func (x *teller) makes(k *desk) {
	k.t.Helper()
	k.create(x.names[0], 1, "name t?", "id i", "n i?", "more t?")
	k.create(x.names[1], 0, "id i", "n i?")
	k.create(x.names[2], 3, "more t?", "n i?", "name t?", "id i")
}

// table is one of the teller's.
func (x *teller) table(i int) api.Table { return told(5+i, x.names[i], "id i", "name t?", "n i?") }

// change is one of a random row, or now and then of all of a table.
func (x *teller) change() (api.Table, api.Change) {
	i, key := x.g.Intn(3), x.g.Intn(6)
	t, rows := x.table(i), x.rows[i]
	c := api.Change{Table: t.ID}
	row := r(key, pick(x.g, "a", "b", "c"), x.g.Intn(4))
	old, there := rows[key]
	switch {
	case x.g.once(25):
		c.Kind = api.RecEmpty
		clear(rows)
	case !there:
		c.Kind, c.New = api.RecInsert, row
		rows[key] = row
	case x.g.once(3):
		c.Kind, c.Old = api.RecDelete, old
		delete(rows, key)
	default:
		c.Kind, c.Old, c.New = api.RecUpdate, old, row
		rows[key] = row
	}
	return t, c
}

// fold is what there is of all that is told, by columns of the names id, name and n; what is not told is null.
func (x *teller) fold() string {
	out := ""
	for i, rows := range x.rows {
		for _, key := range slices.Sorted(maps.Keys(rows)) {
			row := slices.Clone(rows[key])
			if i == 2 && row[2].N <= 1 {
				continue
			}
			if i == 1 {
				row[1] = null
			}
			out += x.names[i] + rowText(row) + " "
		}
	}
	return out
}

// has is what a subscriber has, in the same words; a column that is never told counts for nothing.
func (x *teller) has(k *desk) string {
	out := ""
	for _, name := range x.names {
		for _, t := range k.s.Tables() {
			if t.Name != name {
				continue
			}
			for row := range k.s.Scan(0, name) {
				by := map[string]api.Value{}
				for i, c := range t.Columns {
					by[c.Name] = row[i]
				}
				out += name + rowText(api.Row{by["id"], by["name"], by["n"]}) + " "
			}
		}
	}
	return out
}

// tells are so many transactions of which something is told.
func (x *teller) tells(n int) []saga {
	x.t.Helper()
	var l []saga
	for len(l) < n {
		lsn := x.end + x.g.Intn(3)*x.g.Intn(50)
		var messages []string
		if e := x.publisher.Begin(1+x.g.Intn(100), lsn); e != api.OK {
			x.t.Fatalf("Begin: %d", e)
		}
		for range x.g.Intn(7) {
			more, e := x.publisher.Change(x.change())
			if e != api.OK {
				x.t.Fatalf("Change: %d", e)
			}
			messages = append(messages, more...)
		}
		x.end = lsn + 1 + x.g.Intn(40)
		more, e := x.publisher.Commit(x.end)
		if e != api.OK {
			x.t.Fatalf("Commit: %d", e)
		}
		if messages = append(messages, more...); len(messages) > 0 {
			l = append(l, saga{x.end, messages, x.fold()})
		}
	}
	return l
}

// reader is an applier that is told sagas: how many of them are committed; which one is told now, and which of its messages comes next.
type reader struct {
	*desk
	origin    string
	from      *teller
	all       []saga
	done      int
	now, next int
	came      map[string]int
}

// anew makes another applier, that is told from any saga that Y5 allows.
func (x *reader) anew() {
	x.a = applier(x.t, x.s, x.origin)
	x.again()
}

func (x *reader) again() { x.now, x.next = x.from.g.Intn(min(x.done, len(x.all)-1)+1), 0 }

// progress is the End of so many sagas.
func (x *reader) progress(n int) int {
	if n == 0 {
		return 0
	}
	return x.all[n-1].end
}

// stays: the committed rows are the fold of those that are done, and Progress is the End of the last one.
func (x *reader) stays() {
	x.t.Helper()
	want := ""
	if x.done > 0 {
		want = x.all[x.done-1].fold
	}
	if got := x.from.has(x.desk); got != want {
		x.t.Fatalf("behind %d sagas there is %s, want %s", x.done, got, want)
	}
	if got := x.a.Progress(); got != x.progress(x.done) {
		x.t.Fatalf("behind %d sagas Progress is %d, want %d", x.done, got, x.progress(x.done))
	}
}

// step takes the next message, if there is one.
func (x *reader) step() api.Errno {
	x.t.Helper()
	if x.now == len(x.all) {
		x.again()
	}
	l := x.all[x.now].messages
	if x.a.Inside() != (x.next > 0) {
		x.t.Fatalf("inside: %v, behind %d messages", x.a.Inside(), x.next)
	}
	if e := x.a.Take(l[x.next]); e != api.OK {
		return e
	}
	if x.next++; x.next < len(l) {
		return api.OK
	}
	if x.now == x.done {
		x.done++
		x.came["applied"]++
	} else {
		x.came["passed over"]++
	}
	x.now, x.next = x.now+1, 0
	return api.OK
}

// reopened: behind a crash what is there is the fold of what was done, or of one more, if its commit was the next message.
func (x *reader) reopened() {
	x.t.Helper()
	last := x.now == x.done && x.now < len(x.all) && x.next == len(x.all[x.now].messages)-1
	if last && x.s.Origin(x.origin) == x.progress(x.done+1) {
		x.done++
		x.came["there all the same"]++
	}
	x.anew()
	x.stays()
}

// once: of all that the log has of the origin each saga that is done has one commit, in their order.
func (x *reader) once() {
	x.t.Helper()
	var got, want []string
	for _, s := range x.logged(8192) {
		var xid, at int
		var origin string
		if n, _ := fmt.Sscanf(s, "commit %d from %s at %d", &xid, &origin, &at); n == 3 && origin == x.origin {
			got = append(got, fmt.Sprint(at))
		}
	}
	for _, s := range x.all[:x.done] {
		want = append(want, fmt.Sprint(s.end))
	}
	if !slices.Equal(got, want) {
		x.t.Errorf("the log has commits of %v, want %v", got, want)
	}
}
