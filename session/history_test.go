package session_test

import (
	"fmt"
	"slices"
	"strings"
	"testing"

	"confluence/api"
)

// TestJ8History: each step in its order, with its session, its number, its text, its Code and whether it has committed something.
func TestJ8History(t *testing.T) {
	k := newDesk(t, 3)
	for _, c := range []struct {
		who  int
		text string
		want string
	}{
		{1, "begin", "1 3 begin 0"},
		{2, " select id  from t ", "2 4 select id from t 0 commit"},
		{2, "selec", ""},
		{4, "begin", ""},
		{1, "insert into t values(3 , 30)", "1 3 insert into t values (3, 30) 0"},
		{2, "create table u (a text key, b int not null)", "2 0 create table u (a text key, b int not null) 0 commit"},
		{2, "create table u (a text key)", "2 0 create table u (a text key) 51"},
		{2, "savepoint a", "2 0 savepoint a 123"},
		{1, "savepoint a", "1 3 savepoint a 0"},
		{1, "drop table u", "1 3 drop table u 122"},
		{1, "drop table u", "1 3 drop table u 131"},
		{1, "rollback to a", "1 3 rollback to a 0"},
		{3, "insert into t values (3)", "3 8 insert into t values (3) 92"},
		{1, "release a", "1 3 release a 0"},
		{1, "prepare 'w'", "1 3 prepare 'w' 0"},
		{1, "commit", "1 0 commit 123"},
		{3, "rollback prepared 'v'", "3 0 rollback prepared 'v' 102"},
		{3, "commit prepared 'w'", "3 0 commit prepared 'w' 0 commit"},
		{3, "begin", "3 9 begin 0"},
		{3, "commit", "3 9 commit 0 commit"},
		{3, "begin", "3 10 begin 0"},
		{3, "rollback", "3 10 rollback 0"},
		{3, "begin", "3 11 begin 0"},
		{3, "select n from t where n / 0 = 1", "3 11 select n from t where n / 0 = 1 115"},
		{3, "commit", "3 11 commit 131"},
		{3, "rollback", "3 0 rollback 123"},
		{2, "alter table u add c bool", "2 0 alter table u add c bool 0 commit"},
		{2, "truncate u", "2 0 truncate u 0 commit"},
		{2, "drop table u", "2 0 drop table u 0 commit"},
		{2, "drop table u", "2 0 drop table u 52"},
	} {
		before := k.m.History()
		k.m.Step(c.who, c.text)
		after := k.m.History()
		if c.want == "" {
			if !slices.Equal(before, after) {
				t.Errorf("%s is a step", c.text)
			}
			continue
		}
		if len(after) != len(before)+1 || !slices.Equal(after[:len(before)], before) {
			t.Fatalf("%s: the history is %v, was %v", c.text, after, before)
		}
		if got := historyText(after[len(before):]); got != c.want {
			t.Errorf("%d: %s is noted as %s, want %s", c.who, c.text, got, c.want)
		}
	}
	k.holdsPositions()
}

// holdsPositions holds the positions of a history against the log: where one is told stands the record of just that; they rise;
// and each commit and change of tables of the log behind the first one has its event.
func (k *desk) holdsPositions() (changes, turned int) {
	k.t.Helper()
	placed := k.placed()
	names := map[string]int{} // who waits
	last := 0
	for _, e := range k.m.History() {
		words := strings.Fields(e.Text)
		if words[0] == "prepare" && e.Code == api.OK {
			names[words[1]] = e.Xid
		}
		if e.Lsn == 0 {
			continue
		}
		want := fmt.Sprint("commit ", e.Xid)
		switch {
		case strings.HasPrefix(e.Text, "commit prepared "):
			want = fmt.Sprint("commit ", names[words[2]])
		case words[0] == "create" || words[0] == "drop":
			want = words[0] + " "
		case words[0] == "alter":
			want = "widen "
		case words[0] == "truncate":
			want = "empty "
		}
		got := placed[e.Lsn]
		if e.Lsn <= last || got != want && !(strings.HasSuffix(want, " ") && strings.HasPrefix(got, want)) {
			k.t.Errorf("%+v: there stands %q", e, got)
		}
		if strings.HasSuffix(want, " ") {
			changes++
			if e.Lsn%api.SegmentSize == 0 {
				turned++
			}
		}
		last = e.Lsn
	}
	return changes, turned
}

// TestJ8Positions: the position of a change of tables is that of its record, wherever that comes to stand in its segment.
func TestJ8Positions(t *testing.T) {
	changes, turned, fits := 0, 0, 0
	for pad := range 60 {
		k := on(t, formatted(t, room), 1)
		k.does(1, "create table t (id int key, s text)", "0")
		for i := range 46 {
			k.does(1, fmt.Sprintf("insert into t values (%d, '%s')", i, strings.Repeat("x", 137+pad%2)), "1")
		}
		k.does(1, fmt.Sprintf("insert into t values (-1, '%s')", strings.Repeat("x", pad)), "1")
		for range 12 {
			for _, text := range []string{"create table u (id int key, a text, b bool)", "alter table u add c text", "truncate u", "insert into u values (1)", "drop table u"} {
				end := k.s.Log().End()
				k.all(1, text)
				if end%api.SegmentSize == 0 && k.last().Xid == 0 {
					fits++ // the record ahead of it had ended with its segment
				}
			}
		}
		c, n := k.holdsPositions()
		changes += c
		turned += n
	}
	if changes < 1000 || turned < 30 || fits < 1 {
		t.Errorf("there were %d changes, %d of them at a segment's beginning, %d behind a segment that was just full", changes, turned, fits)
	}
}

// TestJ8Numbers: Xid and Failed of each number at each time.
func TestJ8Numbers(t *testing.T) {
	k := newDesk(t, 2)
	all := func(want ...int) {
		t.Helper()
		for who := -2; who <= 5; who++ {
			xid, failed := 0, false
			if who >= 1 && who <= 2 {
				xid, failed = max(want[who-1], -want[who-1]), want[who-1] < 0 // below 0: it has failed
			}
			k.stands(who, xid, failed)
		}
	}
	all(0, 0)
	k.does(2, "begin", "0")
	all(0, 3)
	k.does(1, "begin", "0")
	all(4, 3)
	k.does(2, "savepoint a", "0") // a part has a number, too, which is not told
	all(4, 3)
	k.fails(2, "truncate t", api.ErrQueryInside)
	all(4, -3)
	k.does(1, "select id from t where id = 1", "1 [id] (1)")
	all(4, -3)
	k.does(2, "rollback to a", "0")
	all(4, 3)
	k.fails(1, "release b", api.ErrStoreName)
	all(-4, 3)
	k.does(2, "commit", "0")
	all(-4, 0)
	k.fails(1, "prepare 'w'", api.ErrSessionFailed)
	all(0, 0)
	k.does(1, "begin", "0")
	k.does(2, "insert into t values (7)", "1")
	all(7, 0)
	k.does(1, "prepare 'w'", "0")
	all(0, 0)
	k.does(2, "rollback prepared 'w'", "0")
	all(0, 0)
}
