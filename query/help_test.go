package query_test

import (
	"fmt"
	"strings"
	"testing"

	"confluence/api"
	"confluence/files"
	"confluence/query"
	"confluence/store"
	"confluence/value"
)

const room = 10000000 // bytes of a disk that has enough

// v is a value by what Go has for it.
func v(x any) api.Value {
	switch x := x.(type) {
	case int:
		return api.Value{Kind: api.Int, N: x}
	case string:
		return api.Value{Kind: api.Text, S: x}
	case bool:
		if x {
			return api.Value{Kind: api.Bool, N: 1}
		}
		return api.Value{Kind: api.Bool}
	}
	return api.Value{}
}

func rowText(r api.Row) string {
	l := make([]string, len(r))
	for i, x := range r {
		l[i] = value.Print(x)
	}
	return "(" + strings.Join(l, ", ") + ")"
}

// parsed is the statement of a text that is one.
func parsed(t *testing.T, s string) *query.Stmt {
	t.Helper()
	q, e, at := query.Parse(s)
	if q == nil || e != api.OK || at != 0 {
		t.Fatalf("Parse(%q) = %v, %d, %d", s, q, e, at)
	}
	return q
}

func wantRefused(t *testing.T, s string, why api.Errno, place int) {
	t.Helper()
	if q, e, at := query.Parse(s); q != nil || e != why || at != place {
		t.Errorf("Parse(%q) = %v, %d, %d, want %d, %d", s, q, e, at, why, place)
	}
}

// stuck is a text that is refused with ErrQueryForm, and where.
type stuck struct {
	text  string
	place int
}

func wantStuck(t *testing.T, l ...stuck) {
	t.Helper()
	for _, c := range l {
		wantRefused(t, c.text, api.ErrQueryForm, c.place)
	}
}

// wantStuckAt are texts that are refused with ErrQueryForm at the sign `^`, which does not count.
func wantStuckAt(t *testing.T, l ...string) {
	t.Helper()
	for _, s := range l {
		at := strings.IndexByte(s, '^')
		wantRefused(t, s[:at]+s[at+1:], api.ErrQueryForm, at)
	}
}

// wantPrint tells how texts are printed: a text and what it is printed as, by turns.
func wantPrint(t *testing.T, l ...string) {
	t.Helper()
	for i := 0; i < len(l); i += 2 {
		if p := parsed(t, l[i]).Print(); p != l[i+1] {
			t.Errorf("%q is printed as %q, want %q", l[i], p, l[i+1])
		}
	}
}

// wantSame are texts that are printed as they are.
func wantSame(t *testing.T, l ...string) {
	t.Helper()
	for _, s := range l {
		wantPrint(t, s, s)
	}
}

// desk is a store with its disk.
type desk struct {
	t *testing.T
	d *files.Disk
	s *store.Store
}

// bare is a store without anything.
func bare(t *testing.T) *desk {
	t.Helper()
	d, e := files.New(room)
	k := &desk{t: t, d: d}
	k.ok(e, store.Format(d))
	k.open()
	return k
}

// open opens the store anew on its disk.
func (k *desk) open() {
	k.t.Helper()
	s, e := store.Open(k.d)
	k.ok(e)
	k.s = s
}

// crash loses what does not last, and opens the store anew.
func (k *desk) crash() {
	k.t.Helper()
	k.ok(k.d.Crash(nil))
	k.open()
}

// newDesk is a store with the table t, and three rows in it.
func newDesk(t *testing.T) *desk {
	t.Helper()
	k := bare(t)
	k.runs(0, "create table t (id int key, s text, n int, b bool)", "0")
	x := k.begin()
	k.runs(x, "insert into t values (1, 'a', null, true), (2, 'b', 5, false), (3, 'c', 7)", "3")
	k.commit(x)
	return k
}

func (k *desk) ok(l ...api.Errno) {
	k.t.Helper()
	for i, e := range l {
		if e != api.OK {
			k.t.Fatalf("call %d: %d", i, e)
		}
	}
}

func (k *desk) begin() int {
	k.t.Helper()
	x, e := k.s.Begin()
	k.ok(e)
	return x
}

func (k *desk) commit(x int) {
	k.t.Helper()
	_, e := k.s.Commit(x)
	k.ok(e)
}

// told is an answer in words: how many rows, the names, the rows; or the error, beside which there may be nothing.
func told(t *testing.T, a api.Answer) string {
	t.Helper()
	if a.Code != api.OK {
		if a.Count != 0 || len(a.Names) != 0 || len(a.Rows) != 0 {
			t.Errorf("beside the error %d there is %+v", a.Code, a)
		}
		return fmt.Sprint("error ", int(a.Code))
	}
	out := fmt.Sprint(a.Count)
	if len(a.Names) > 0 {
		out += " [" + strings.Join(a.Names, "|") + "]"
	}
	for _, r := range a.Rows {
		out += " " + rowText(r)
	}
	return out
}

// run is what a statement answers, in words.
func (k *desk) run(x int, text string) string {
	k.t.Helper()
	return told(k.t, parsed(k.t, text).Run(k.s, x))
}

// runs holds what a statement answers against words.
func (k *desk) runs(x int, text, want string) {
	k.t.Helper()
	if got := k.run(x, text); got != want {
		k.t.Errorf("%s, in %d: %s, want %s", text, x, got, want)
	}
}

// fails: a statement that is refused.
func (k *desk) fails(x int, text string, want api.Errno) {
	k.t.Helper()
	k.runs(x, text, fmt.Sprint("error ", int(want)))
}

// failsIdly: a statement that is refused, and has written nothing.
func (k *desk) failsIdly(x int, text string, want api.Errno) {
	k.t.Helper()
	end := k.s.Log().End()
	k.fails(x, text, want)
	if k.s.Log().End() != end {
		k.t.Errorf("%s, in %d, is refused and has been logged", text, x)
	}
}

// rows are those of a table that are seen.
func (k *desk) rows(x int, table string) string {
	var l []string
	for r := range k.s.Scan(x, table) {
		l = append(l, rowText(r))
	}
	return strings.Join(l, " ")
}

func (k *desk) sees(x int, table, want string) {
	k.t.Helper()
	if got := k.rows(x, table); got != want {
		k.t.Errorf("the rows of %s, in %d: %s, want %s", table, x, got, want)
	}
}

// tables are the store's, in words.
func (k *desk) tables() string {
	out := ""
	for _, t := range k.s.Tables() {
		out += fmt.Sprintf("%s %d.%d", t.Name, t.ID, t.Version)
		for i, c := range t.Columns {
			out += fmt.Sprintf(" %s:%d", c.Name, c.Kind)
			if c.Null {
				out += "?"
			}
			if i == t.Key {
				out += "!"
			}
		}
		out += ";"
	}
	return out
}

// bytesOf has of a living disk each file's bytes, pending or not.
func bytesOf(t *testing.T, d *files.Disk) string {
	t.Helper()
	out := ""
	for _, name := range d.List() {
		n, _ := d.Size(name)
		s, e := d.Read(name, 0, n)
		if e != api.OK {
			t.Fatalf("Read(%q): %d", name, e)
		}
		out += name + ":" + s + ";"
	}
	return out
}

// many is a text so many times, with commas between.
func many(n int, s string) string { return strings.TrimSuffix(strings.Repeat(s+", ", n), ", ") }
