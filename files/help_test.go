package files_test

import (
	"slices"
	"testing"

	"confluence/api"
	"confluence/files"
)

// made is a disk with these files, empty ones.
func made(t *testing.T, capacity int, names ...string) *files.Disk {
	t.Helper()
	d, e := files.New(capacity)
	if d == nil || e != api.OK {
		t.Fatalf("New(%d): %d", capacity, e)
	}
	for _, name := range names {
		is(t, "Create of "+name, d.Create(name), api.OK)
	}
	return d
}

// mixed is a disk of 20 bytes with the file a, of which "last" lasts and "new" is pending, and the file b, of which "b" lasts.
func mixed(t *testing.T) *files.Disk {
	t.Helper()
	d := made(t, 20, "a", "b")
	is(t, "Append", d.Append("a", "last"), api.OK)
	is(t, "Append", d.Append("b", "b"), api.OK)
	is(t, "Sync", d.Sync("a"), api.OK)
	is(t, "Sync", d.Sync("b"), api.OK)
	is(t, "Append", d.Append("a", "new"), api.OK)
	return d
}

func is(t *testing.T, what string, got, want api.Errno) {
	t.Helper()
	if got != want {
		t.Errorf("%s: %d, want %d", what, got, want)
	}
}

// has holds a file of a living disk against its bytes and how many of them are pending.
func has(t *testing.T, d *files.Disk, name, want string, pending int) {
	t.Helper()
	n, e := d.Size(name)
	s, f := d.Read(name, 0, n)
	if s != want || n != len(want) || e != api.OK || f != api.OK || d.Pending(name) != pending {
		t.Errorf("%s is %q (%d), %d, %d, pending %d, want %q, pending %d", name, s, n, e, f, d.Pending(name), want, pending)
	}
}

// lists holds a disk against its names and the room that is left.
func lists(t *testing.T, d *files.Disk, free int, names ...string) {
	t.Helper()
	if l := d.List(); !slices.Equal(l, names) || d.Free() != free {
		t.Errorf("List: %q, Free: %d, want %q, %d", l, d.Free(), names, free)
	}
}

// wantMixed holds a living disk against what mixed made.
func wantMixed(t *testing.T, d *files.Disk) {
	t.Helper()
	has(t, d, "a", "lastnew", 3)
	has(t, d, "b", "b", 0)
	lists(t, d, 12, "a", "b")
}

// wantMixedDead holds a dead disk against what mixed made; only a crash that keeps all shows the bytes that were pending.
func wantMixedDead(t *testing.T, d *files.Disk) {
	t.Helper()
	if !d.Dead() {
		t.Error("it is not dead")
	}
	lists(t, d, 12, "a", "b")
	if d.Pending("a") != 3 || d.Pending("b") != 0 {
		t.Errorf("pending: %d, %d", d.Pending("a"), d.Pending("b"))
	}
	wantFiles(t, d, api.File{Name: "a", Bytes: "last"}, api.File{Name: "b", Bytes: "b"})
	is(t, "Crash", d.Crash([]api.Keep{{Name: "a", Bytes: 3}}), api.OK)
	has(t, d, "a", "lastnew", 0)
	has(t, d, "b", "b", 0)
	lists(t, d, 12, "a", "b")
}

func wantFiles(t *testing.T, d *files.Disk, want ...api.File) {
	t.Helper()
	if l := d.Files(); !slices.Equal(l, want) {
		t.Errorf("Files: %q, want %q", l, want)
	}
}

// try is one call of a disk.
type try struct {
	what string
	call func(d *files.Disk) api.Errno
}

// acts are, of a disk that mixed made, an act of each kind.
func acts() []try {
	return []try{
		{"Create", func(d *files.Disk) api.Errno { return d.Create("c") }},
		{"Append", func(d *files.Disk) api.Errno { return d.Append("a", "more") }},
		{"Append of nothing", func(d *files.Disk) api.Errno { return d.Append("a", "") }},
		{"Sync", func(d *files.Disk) api.Errno { return d.Sync("a") }},
		{"Sync of what lasts", func(d *files.Disk) api.Errno { return d.Sync("b") }},
		{"Truncate", func(d *files.Disk) api.Errno { return d.Truncate("a", 2) }},
		{"Truncate to all", func(d *files.Disk) api.Errno { return d.Truncate("a", 7) }},
		{"Remove", func(d *files.Disk) api.Errno { return d.Remove("a") }},
		{"Rename", func(d *files.Disk) api.Errno { return d.Rename("b", "c") }},
		{"Rename over one", func(d *files.Disk) api.Errno { return d.Rename("b", "a") }},
		{"Rename to itself", func(d *files.Disk) api.Errno { return d.Rename("a", "a") }},
	}
}

// refusal is a call that is no act, and what it answers.
type refusal struct {
	try
	want api.Errno
}

// refusals are, of a disk that mixed made, calls that are refused ahead of their act.
func refusals() []refusal {
	return []refusal{
		{try{"Create of no name", func(d *files.Disk) api.Errno { return d.Create("A") }}, api.ErrFileName},
		{try{"Create of one that is there", func(d *files.Disk) api.Errno { return d.Create("a") }}, api.ErrFileThere},
		{try{"Append to no name", func(d *files.Disk) api.Errno { return d.Append("", "x") }}, api.ErrFileName},
		{try{"Append to no file", func(d *files.Disk) api.Errno { return d.Append("c", "x") }}, api.ErrFileNone},
		{try{"Append of too much", func(d *files.Disk) api.Errno { return d.Append("b", "1234567890123") }}, api.ErrFileFull},
		{try{"Sync of no name", func(d *files.Disk) api.Errno { return d.Sync("a b") }}, api.ErrFileName},
		{try{"Sync of no file", func(d *files.Disk) api.Errno { return d.Sync("c") }}, api.ErrFileNone},
		{try{"Truncate of no name", func(d *files.Disk) api.Errno { return d.Truncate("a/b", 0) }}, api.ErrFileName},
		{try{"Truncate of no file", func(d *files.Disk) api.Errno { return d.Truncate("c", 0) }}, api.ErrFileNone},
		{try{"Truncate below 0", func(d *files.Disk) api.Errno { return d.Truncate("a", -1) }}, api.ErrFileRange},
		{try{"Truncate above all", func(d *files.Disk) api.Errno { return d.Truncate("a", 8) }}, api.ErrFileRange},
		{try{"Remove of no name", func(d *files.Disk) api.Errno { return d.Remove("é") }}, api.ErrFileName},
		{try{"Remove of no file", func(d *files.Disk) api.Errno { return d.Remove("c") }}, api.ErrFileNone},
		{try{"Rename of no name", func(d *files.Disk) api.Errno { return d.Rename("A", "a") }}, api.ErrFileName},
		{try{"Rename to no name", func(d *files.Disk) api.Errno { return d.Rename("a", "A") }}, api.ErrFileName},
		{try{"Rename of no file to no name", func(d *files.Disk) api.Errno { return d.Rename("c", "A") }}, api.ErrFileName},
		{try{"Rename of no file", func(d *files.Disk) api.Errno { return d.Rename("c", "a") }}, api.ErrFileNone},
		{try{"Rename of no file to itself", func(d *files.Disk) api.Errno { return d.Rename("c", "c") }}, api.ErrFileNone},
	}
}
