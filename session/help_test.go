package session_test

import (
	"fmt"
	"strings"
	"testing"

	"confluence/api"
	"confluence/code"
	"confluence/files"
	"confluence/record"
	"confluence/session"
	"confluence/store"
	"confluence/value"
)

const room = 10000000 // bytes of a disk that has enough

func rowText(r api.Row) string {
	l := make([]string, len(r))
	for i, x := range r {
		l[i] = value.Print(x)
	}
	return "(" + strings.Join(l, ", ") + ")"
}

// told is an answer in words: how many rows, the names, the rows; or the error, beside which there may be nothing.
func told(t *testing.T, a api.Answer) string {
	t.Helper()
	if a.Code != api.OK {
		if a.Count != 0 || len(a.Names) != 0 || len(a.Rows) != 0 {
			t.Errorf("beside the error %d there is %+v", a.Code, a)
		}
		return errorText(a.Code)
	}
	out := fmt.Sprint(a.Count)
	if len(a.Names) > 0 {
		out += " [" + strings.Join(a.Names, "|") + "]"
	}
	for _, r := range a.Rows {
		out += " " + rowText(r)
	}
	return out
}

// errorText is what told says of an error; of none it is what it says of a statement that has nothing to tell.
func errorText(e api.Errno) string {
	if e == api.OK {
		return "0"
	}
	return fmt.Sprint("error ", int(e))
}

// desk is a store with its disk, and a machine of sessions on it.
type desk struct {
	t *testing.T
	d *files.Disk
	s *store.Store
	m *session.Machine
}

// on is a machine of n sessions on the store of a disk.
func on(t *testing.T, d *files.Disk, n int) *desk {
	t.Helper()
	s, e := store.Open(d)
	if e != api.OK {
		t.Fatalf("Open: %d", e)
	}
	return &desk{t: t, d: d, s: s, m: machine(t, s, n)}
}

func machine(t *testing.T, s *store.Store, n int) *session.Machine {
	t.Helper()
	m, e := session.New(s, n)
	if m == nil || e != api.OK {
		t.Fatalf("New(%d) = %v, %d", n, m, e)
	}
	return m
}

// formatted is a disk with a store without anything.
func formatted(t *testing.T, capacity int) *files.Disk {
	t.Helper()
	d, e := files.New(capacity)
	if e != api.OK {
		t.Fatalf("files.New: %d", e)
	}
	if e := store.Format(d); e != api.OK {
		t.Fatalf("Format: %d", e)
	}
	return d
}

// newDesk is a machine of n sessions on a store with the table t, which has the rows 1 and 2. The next number is 3.
func newDesk(t *testing.T, n int) *desk {
	t.Helper()
	k := on(t, formatted(t, room), n)
	k.does(1, "create table t (id int key, n int)", "0")
	k.does(1, "insert into t values (1, 10), (2, 20)", "2")
	k.m = machine(t, k.s, n) // one whose history is empty
	return k
}

// lateDesk is a machine on a store without tables that gives just so many numbers more.
func lateDesk(t *testing.T, left, n int) *desk {
	t.Helper()
	w := code.NewWriter()
	w.Raw("CB")
	w.Var(8192)
	w.Var(0)
	w.Var(0)
	head, _ := w.Done()
	checkpoint, e := record.Encode(api.Rec{Kind: api.RecCheckpoint, Xid: api.MaxXid + 1 - left, Table: 1})
	if e != api.OK {
		t.Fatalf("Encode: %d", e)
	}
	base := ""
	for _, p := range []string{head, checkpoint} {
		frame, _ := code.Frame(p)
		base += frame
	}
	d, e := files.Load(room, []api.File{{Name: "base", Bytes: base}, {Name: "wal.000001"}})
	if e != api.OK {
		t.Fatalf("Load: %d", e)
	}
	return on(t, d, n)
}

// crash loses what does not last, and opens the store anew, with a new machine of n sessions.
func (k *desk) crash(n int) {
	k.t.Helper()
	k.ok(k.d.Crash(nil))
	*k = *on(k.t, k.d, n)
}

func (k *desk) ok(l ...api.Errno) {
	k.t.Helper()
	for i, e := range l {
		if e != api.OK {
			k.t.Fatalf("call %d: %d", i, e)
		}
	}
}

// does holds what a step answers against words.
func (k *desk) does(who int, text, want string) {
	k.t.Helper()
	if got := told(k.t, k.m.Step(who, text)); got != want {
		k.t.Errorf("%d: %s: %s, want %s", who, text, got, want)
	}
}

// fails: a step that is refused.
func (k *desk) fails(who int, text string, want api.Errno) {
	k.t.Helper()
	k.does(who, text, errorText(want))
}

// failsIdly: a step that is refused, and of which nothing is logged.
func (k *desk) failsIdly(who int, text string, want api.Errno) {
	k.t.Helper()
	end := k.s.Log().End()
	k.fails(who, text, want)
	if k.s.Log().End() != end {
		k.t.Errorf("%d: %s is refused, and was logged: %s", who, text, k.logged(end))
	}
}

// all are steps of one session that tell nothing but that they are OK.
func (k *desk) all(who int, l ...string) {
	k.t.Helper()
	for _, text := range l {
		if a := k.m.Step(who, text); a.Code != api.OK {
			k.t.Errorf("%d: %s: %d", who, text, a.Code)
		}
	}
}

// stands holds what a session has open against what is wanted.
func (k *desk) stands(who, xid int, failed bool) {
	k.t.Helper()
	if k.m.Xid(who) != xid || k.m.Failed(who) != failed {
		k.t.Errorf("session %d: %d, %v, want %d, %v", who, k.m.Xid(who), k.m.Failed(who), xid, failed)
	}
}

// sees holds the rows of a table, as a transaction sees them, against words.
func (k *desk) sees(xid int, want string) {
	k.t.Helper()
	var l []string
	for r := range k.s.Scan(xid, "t") {
		l = append(l, rowText(r))
	}
	if got := strings.Join(l, " "); got != want {
		k.t.Errorf("the rows of t, in %d: %s, want %s", xid, got, want)
	}
}

// logged is in words what the log has from a place on, also what does not last yet.
func (k *desk) logged(from int) string {
	k.t.Helper()
	var words []string
	for at := from; ; {
		payload, next, e := k.s.Log().Read(at)
		if e == api.ErrWalEnd {
			return strings.Join(words, "; ")
		}
		r, wrong := record.Decode(payload)
		k.ok(e, wrong)
		words = append(words, record.Print(r))
		at = next
	}
}

// placed are the records of the log that last, in words, by their positions.
func (k *desk) placed() map[int]string {
	k.t.Helper()
	out := map[int]string{}
	for at, payload := range k.s.Log().Scan(0) {
		r, e := record.Decode(payload)
		k.ok(e)
		out[at] = record.Print(r)
	}
	return out
}

// logs holds against words what a step logs.
func (k *desk) logs(who int, text, want string) {
	k.t.Helper()
	end := k.s.Log().End()
	k.m.Step(who, text)
	if got := k.logged(end); got != want {
		k.t.Errorf("%d: %s logs: %s, want %s", who, text, got, want)
	}
}

// last is the last event of the history.
func (k *desk) last() api.Event {
	k.t.Helper()
	l := k.m.History()
	if len(l) == 0 {
		k.t.Fatal("the history is empty")
	}
	return l[len(l)-1]
}

// notes holds the last event against what is wanted; its position is told by whether there is one.
func (k *desk) notes(who, xid int, text string, e api.Errno, committed bool) {
	k.t.Helper()
	got := k.last()
	if got.Session != who || got.Xid != xid || got.Text != text || got.Code != e || (got.Lsn != 0) != committed {
		k.t.Errorf("the last event is %+v, want %d, %d, %s, %d, committed: %v", got, who, xid, text, e, committed)
	}
}

// bytesOf has of a disk, dead or not, what lasts and how much does not; of a living one also what does not.
func bytesOf(d *files.Disk) string {
	out := fmt.Sprint(d.Files())
	for _, name := range d.List() {
		n, _ := d.Size(name)
		s, _ := d.Read(name, 0, n)
		out += fmt.Sprint(name, d.Pending(name), s, ";")
	}
	return out
}

// historyText is a history in words: of each event the session, the number, the text and the Code; `commit`, if it has a position.
func historyText(l []api.Event) string {
	var out []string
	for _, e := range l {
		s := fmt.Sprint(e.Session, " ", e.Xid, " ", e.Text, " ", int(e.Code))
		if e.Lsn != 0 {
			s += " commit"
		}
		out = append(out, s)
	}
	return strings.Join(out, "; ")
}
