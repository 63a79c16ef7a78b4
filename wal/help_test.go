package wal_test

import (
	"fmt"
	"slices"
	"strings"
	"testing"

	"confluence/api"
	"confluence/code"
	"confluence/files"
	"confluence/wal"
)

const size = api.SegmentSize

// entry is a record and its position.
type entry struct {
	at      int
	payload string
}

func is(t *testing.T, what string, got, want api.Errno) {
	t.Helper()
	if got != want {
		t.Errorf("%s: %d, want %d", what, got, want)
	}
}

// loaded is a disk with these files, all of which last.
func loaded(t *testing.T, capacity int, l ...api.File) *files.Disk {
	t.Helper()
	d, e := files.Load(capacity, l)
	if d == nil || e != api.OK {
		t.Fatalf("Load: %d", e)
	}
	return d
}

func opened(t *testing.T, d *files.Disk) *wal.Log {
	t.Helper()
	l, e := wal.Open(d)
	if l == nil || e != api.OK {
		t.Fatalf("Open: %d", e)
	}
	return l
}

// begun is a disk with a new log, opened.
func begun(t *testing.T, capacity int) (*files.Disk, *wal.Log) {
	t.Helper()
	d := loaded(t, capacity)
	is(t, "Create", wal.Create(d), api.OK)
	return d, opened(t, d)
}

// begunAt is a disk whose log begins with segment k, empty, opened.
func begunAt(t *testing.T, capacity, k int) (*files.Disk, *wal.Log) {
	t.Helper()
	d := loaded(t, capacity, segment(k))
	return d, opened(t, d)
}

func named(k int) string { return fmt.Sprintf("wal.%06d", k) }

// segment is the file of segment k, with these bytes one behind the other.
func segment(k int, parts ...string) api.File {
	return api.File{Name: named(k), Bytes: strings.Join(parts, "")}
}

// filled is the file of a full segment: these bytes, and noughts.
func filled(k int, parts ...string) api.File {
	f := segment(k, parts...)
	f.Bytes += noughts(size - len(f.Bytes))
	return f
}

func noughts(n int) string { return strings.Repeat("\x00", n) }

func framed(payload string) string {
	f, _ := code.Frame(payload)
	return f
}

// sized is a payload whose frame has so many bytes.
func sized(n int) string { return strings.Repeat("p", n-api.FrameHead) }

// leaving has payloads whose frames leave so much room in a segment.
func leaving(room int) []string {
	var out []string
	left := size - room
	for left > 4007 {
		n := min(4007, left-8)
		out = append(out, sized(n))
		left -= n
	}
	return append(out, sized(left))
}

// fill appends payloads to the log, whose last segment is empty, so that so much room is left; the bytes that it has then.
func fill(t *testing.T, l *wal.Log, room int) string {
	t.Helper()
	out := ""
	for _, s := range leaving(room) {
		appends(t, l, s, l.End())
		out += framed(s)
	}
	return out
}

func appends(t *testing.T, l *wal.Log, payload string, want int) {
	t.Helper()
	if at, e := l.Append(payload); at != want || e != api.OK {
		t.Errorf("Append of %d bytes: %d, %d, want %d", len(payload), at, e, want)
	}
}

func refuses(t *testing.T, l *wal.Log, payload string, want api.Errno) {
	t.Helper()
	if at, e := l.Append(payload); at != 0 || e != want {
		t.Errorf("Append of %d bytes: %d, %d, want 0, %d", len(payload), at, e, want)
	}
}

func reads(t *testing.T, l *wal.Log, lsn int, payload string, next int) {
	t.Helper()
	if s, n, e := l.Read(lsn); s != payload || n != next || e != api.OK {
		t.Errorf("Read(%d): %s, %d, %d, want %s, %d", lsn, short(s), n, e, short(payload), next)
	}
}

func readsNot(t *testing.T, l *wal.Log, lsn int, want api.Errno) {
	t.Helper()
	if s, n, e := l.Read(lsn); s != "" || n != 0 || e != want {
		t.Errorf("Read(%d): %s, %d, %d, want nothing, %d", lsn, short(s), n, e, want)
	}
}

func short(s string) string {
	if len(s) > 20 {
		return fmt.Sprintf("%q.. (%d)", s[:20], len(s))
	}
	return fmt.Sprintf("%q", s)
}

func stands(t *testing.T, l *wal.Log, first, flushed, end int) {
	t.Helper()
	if l.First() != first || l.Flushed() != flushed || l.End() != end {
		t.Errorf("First, Flushed, End: %d, %d, %d, want %d, %d, %d", l.First(), l.Flushed(), l.End(), first, flushed, end)
	}
}

func trims(t *testing.T, l *wal.Log, lsn, want int, e api.Errno) {
	t.Helper()
	if n, f := l.Trim(lsn); n != want || f != e {
		t.Errorf("Trim(%d): %d, %d, want %d, %d", lsn, n, f, want, e)
	}
}

func scanned(l *wal.Log, from int) []entry {
	var out []entry
	for at, s := range l.Scan(from) {
		out = append(out, entry{at, s})
	}
	return out
}

func scans(t *testing.T, l *wal.Log, from int, want ...entry) {
	t.Helper()
	if got := scanned(l, from); !slices.Equal(got, want) {
		t.Errorf("Scan(%d): %s, want %s", from, places(got), places(want))
	}
}

func places(l []entry) string {
	out := ""
	for _, x := range l {
		out += fmt.Sprint(x.at, " ", short(x.payload), "; ")
	}
	return out
}

// chained has the payloads of a log, by Read from its First on, each behind the other.
func chained(t *testing.T, l *wal.Log) []string {
	t.Helper()
	var out []string
	for next := l.First(); ; {
		s, n, e := l.Read(next)
		if e == api.ErrWalEnd {
			return out
		}
		if e != api.OK {
			t.Fatalf("Read(%d): %d", next, e)
		}
		out = append(out, s)
		next = n
	}
}

// bytesOf has of a living disk each file's name and bytes, pending or not.
func bytesOf(t *testing.T, d *files.Disk) []api.File {
	t.Helper()
	var out []api.File
	for _, name := range d.List() {
		n, _ := d.Size(name)
		s, e := d.Read(name, 0, n)
		is(t, "Read of "+name, e, api.OK)
		out = append(out, api.File{Name: name, Bytes: s})
	}
	return out
}

// holds holds a living disk's files against these, pending bytes too.
func holds(t *testing.T, d *files.Disk, want ...api.File) {
	t.Helper()
	if got := bytesOf(t, d); !slices.Equal(got, want) {
		t.Errorf("the files are %s, want %s", sizes(got), sizes(want))
	}
}

func sizes(l []api.File) string {
	out := ""
	for _, f := range l {
		out += fmt.Sprint(f.Name, " ", short(f.Bytes), "; ")
	}
	return out
}

// costs holds a call against how many acts it does; the disk is dead behind that.
func costs(t *testing.T, d *files.Disk, want int, what string, call func()) {
	t.Helper()
	is(t, "Arm", d.Arm(want+1), api.OK)
	call()
	if d.Dead() {
		t.Errorf("%s: more acts than %d", what, want)
		return
	}
	if d.Create("probe") != api.ErrDead {
		t.Errorf("%s: fewer acts than %d", what, want)
	}
}
