package files_test

import (
	"math"
	"slices"
	"strings"
	"testing"

	"confluence/api"
	"confluence/files"
)

func TestExamples(t *testing.T) {
	d := made(t, 10)
	is(t, "Append", d.Append("a", "x"), api.ErrFileNone)
	is(t, "Create", d.Create("a"), api.OK)
	is(t, "Create", d.Create("a"), api.ErrFileThere)
	is(t, "Create", d.Create("A"), api.ErrFileName)
	is(t, "Append", d.Append("a", "hello"), api.OK)
	is(t, "Append", d.Append("a", "123456"), api.ErrFileFull)
	lists(t, d, 5, "a")
	has(t, d, "a", "hello", 5)
	is(t, "Sync", d.Sync("a"), api.OK)
	is(t, "Append", d.Append("a", "LO"), api.OK)
	is(t, "Crash", d.Crash([]api.Keep{{Name: "a", Bytes: 3}}), api.ErrFileKeep)
	is(t, "Crash", d.Crash([]api.Keep{{Name: "a", Bytes: 1}}), api.OK)
	has(t, d, "a", "helloL", 0)

	is(t, "Truncate", d.Truncate("a", 2), api.OK)
	is(t, "Crash", d.Crash(nil), api.OK)
	has(t, d, "a", "he", 0)
	is(t, "Rename", d.Rename("a", "b"), api.OK)
	lists(t, d, 8, "b")
	wantFiles(t, d, api.File{Name: "b", Bytes: "he"})

	is(t, "FailSync", d.FailSync(2), api.OK)
	is(t, "Sync", d.Sync("b"), api.OK)
	is(t, "Append", d.Append("b", "y"), api.OK)
	is(t, "Sync", d.Sync("b"), api.ErrFileSync)
	has(t, d, "b", "hey", 1)
	is(t, "Sync", d.Sync("b"), api.OK)
	is(t, "Arm", d.Arm(1), api.OK)
	is(t, "Append", d.Append("b", "12345678"), api.ErrFileFull)
	is(t, "Remove", d.Remove("b"), api.ErrDead)
	lists(t, d, 7, "b")
	_, e := d.Read("b", 0, 1)
	is(t, "Read of a dead disk", e, api.ErrDead)
	is(t, "Crash", d.Crash(nil), api.OK)
	s, e := d.Read("b", 0, 1)
	if s != "h" || e != api.OK {
		t.Errorf("Read behind the crash: %q, %d", s, e)
	}
}

func TestF1Capacity(t *testing.T) {
	for _, n := range []int{math.MinInt, -1, 0, 1000000001, math.MaxInt} {
		if d, e := files.New(n); d != nil || e != api.ErrArg {
			t.Errorf("New(%d): %v, %d", n, d, e)
		}
		if d, e := files.Load(n, []api.File{{Name: "A"}}); d != nil || e != api.ErrArg {
			t.Errorf("Load(%d): %v, %d", n, d, e)
		}
	}
	for _, n := range []int{1, 2, 1000000000} {
		d := made(t, n)
		lists(t, d, n)
		wantFiles(t, d)
		d, e := files.Load(n, nil)
		if d == nil || e != api.OK {
			t.Fatalf("Load(%d): %d", n, e)
		}
		lists(t, d, n)
	}
}

func TestF1LoadRefuses(t *testing.T) {
	long := strings.Repeat("x", 41)
	for _, c := range []struct {
		what     string
		capacity int
		l        []api.File
		want     api.Errno
	}{
		{"no name", 9, []api.File{{Name: "a"}, {Name: ""}}, api.ErrFileName},
		{"a name too long", 9, []api.File{{Name: long}}, api.ErrFileName},
		{"no name behind one that stands there twice", 9, []api.File{{Name: "a"}, {Name: "a"}, {Name: "A"}}, api.ErrFileName},
		{"no name behind too many bytes", 1, []api.File{{Name: "a", Bytes: "12"}, {Name: "A"}}, api.ErrFileName},
		{"one twice", 9, []api.File{{Name: "a"}, {Name: "b"}, {Name: "a"}}, api.ErrFileThere},
		{"one twice, with the same bytes", 9, []api.File{{Name: "a", Bytes: "1"}, {Name: "a", Bytes: "1"}}, api.ErrFileThere},
		{"one twice behind too many bytes", 1, []api.File{{Name: "a", Bytes: "12"}, {Name: "a"}}, api.ErrFileThere},
		{"too many bytes in one", 2, []api.File{{Name: "a", Bytes: "123"}}, api.ErrFileFull},
		{"too many bytes together", 5, []api.File{{Name: "a", Bytes: "123"}, {Name: "b", Bytes: "456"}}, api.ErrFileFull},
	} {
		if d, e := files.Load(c.capacity, c.l); d != nil || e != c.want {
			t.Errorf("%s: %v, %d, want %d", c.what, d, e, c.want)
		}
	}
}

func TestF1Load(t *testing.T) {
	l := []api.File{{Name: "b", Bytes: "12"}, {Name: "c"}, {Name: "a", Bytes: "345"}}
	given := slices.Clone(l)
	d, e := files.Load(5, l)
	if e != api.OK {
		t.Fatalf("Load: %d", e)
	}
	if !slices.Equal(l, given) {
		t.Error("the list was written into")
	}
	clear(l)
	has(t, d, "a", "345", 0)
	has(t, d, "b", "12", 0)
	has(t, d, "c", "", 0)
	lists(t, d, 0, "a", "b", "c")
	is(t, "Append to a full disk", d.Append("c", "x"), api.ErrFileFull)
	is(t, "Append of nothing to a full disk", d.Append("c", ""), api.OK)
	is(t, "Crash", d.Crash(nil), api.OK)
	wantFiles(t, d, api.File{Name: "a", Bytes: "345"}, api.File{Name: "b", Bytes: "12"}, api.File{Name: "c"})
}

// TestF1NothingIsDue: a new disk lives, and goes on living however many acts and syncs there are.
func TestF1NothingIsDue(t *testing.T) {
	loaded, _ := files.Load(100, []api.File{{Name: "a"}})
	for _, d := range []*files.Disk{made(t, 100, "a"), loaded} {
		if d.Dead() {
			t.Error("it is dead")
		}
		for range 20 {
			is(t, "Append", d.Append("a", "x"), api.OK)
			is(t, "Sync", d.Sync("a"), api.OK)
		}
	}
}

func TestNames(t *testing.T) {
	right := []string{"a", "z", "0", "9", ".", "_", "-", "..", "wal.000001", "spill.a.7.0", "a.b_c-9", strings.Repeat("x", 40)}
	wrong := []string{"", "A", "Z", "a b", "a/b", "a\x00", "é", "\xff", "`", "{", "@", "[", ":", ",", "^", strings.Repeat("x", 41), strings.Repeat("x", 1000)}
	d := made(t, 100)
	for _, name := range right {
		is(t, "Create of "+name, d.Create(name), api.OK)
	}
	slices.Sort(right)
	lists(t, d, 100, right...)
	for _, name := range wrong {
		_, size := d.Size(name)
		_, read := d.Read(name, -1, -1)
		for i, e := range []api.Errno{d.Create(name), d.Append(name, strings.Repeat("x", 200)), d.Sync(name), d.Truncate(name, -1), d.Remove(name), d.Rename(name, "a"), d.Rename("a", name), d.Rename(name, name), size, read, d.Crash([]api.Keep{{Name: name, Bytes: -1}})} {
			if e != api.ErrFileName {
				t.Errorf("call %d of %q: %d", i, name, e)
			}
		}
		if d.Pending(name) != 0 {
			t.Errorf("Pending of %q: %d", name, d.Pending(name))
		}
	}
	lists(t, d, 100, right...)
}

// TestNameBytes: which bytes a name may have.
func TestNameBytes(t *testing.T) {
	const allowed = "abcdefghijklmnopqrstuvwxyz0123456789._-"
	for b := range 256 {
		name := string([]byte{'n', byte(b)})
		want := api.ErrFileName
		if strings.IndexByte(allowed, byte(b)) >= 0 {
			want = api.OK
		}
		is(t, "Create of "+name, made(t, 1).Create(name), want)
	}
}

func TestF3Create(t *testing.T) {
	d := made(t, 1, "b", "a")
	has(t, d, "a", "", 0)
	lists(t, d, 1, "a", "b")
	is(t, "Append", d.Append("a", "x"), api.OK)
	is(t, "Create of a file that is there", d.Create("a"), api.ErrFileThere)
	has(t, d, "a", "x", 1)
	is(t, "Create on a full disk", d.Create("c"), api.OK)
	lists(t, d, 0, "a", "b", "c")
}

func TestF3Append(t *testing.T) {
	d := made(t, 6, "a", "b")
	is(t, "Append", d.Append("a", "one"), api.OK)
	is(t, "Append", d.Append("b", "\x00\xff"), api.OK)
	has(t, d, "a", "one", 3)
	is(t, "Append beyond the room", d.Append("a", "23"), api.ErrFileFull)
	has(t, d, "a", "one", 3)
	lists(t, d, 1, "a", "b")
	is(t, "Append of the last byte", d.Append("a", "2"), api.OK)
	has(t, d, "a", "one2", 4)
	has(t, d, "b", "\x00\xff", 2)
	lists(t, d, 0, "a", "b")
	is(t, "Append to no file on a full disk", d.Append("c", "x"), api.ErrFileNone)
}

func TestF3Sync(t *testing.T) {
	d := made(t, 20, "a", "b")
	is(t, "Append", d.Append("a", "one"), api.OK)
	is(t, "Append", d.Append("b", "two"), api.OK)
	is(t, "Sync", d.Sync("a"), api.OK)
	has(t, d, "a", "one", 0)
	has(t, d, "b", "two", 3)
	is(t, "Append", d.Append("a", "four"), api.OK)
	has(t, d, "a", "onefour", 4)
	wantFiles(t, d, api.File{Name: "a", Bytes: "one"}, api.File{Name: "b"})
}

func TestF4Truncate(t *testing.T) {
	for _, c := range []struct {
		n, pending int
		want       string
	}{{7, 3, "lastnew"}, {6, 2, "lastne"}, {5, 1, "lastn"}, {4, 0, "last"}, {3, 0, "las"}, {0, 0, ""}} {
		d := mixed(t)
		is(t, "Truncate", d.Truncate("a", c.n), api.OK)
		has(t, d, "a", c.want, c.pending)
		lists(t, d, 19-c.n, "a", "b")
		// What is appended behind a cut is pending, whatever lasted there once.
		is(t, "Append", d.Append("a", "XYZ"), api.OK)
		has(t, d, "a", c.want+"XYZ", c.pending+3)
		is(t, "Crash", d.Crash(nil), api.OK)
		has(t, d, "a", c.want[:len(c.want)-c.pending], 0)
	}
}

func TestF4Remove(t *testing.T) {
	d := mixed(t)
	is(t, "Remove", d.Remove("a"), api.OK)
	lists(t, d, 19, "b")
	_, e := d.Size("a")
	is(t, "Size of what was removed", e, api.ErrFileNone)
	if d.Pending("a") != 0 {
		t.Errorf("Pending of what was removed: %d", d.Pending("a"))
	}
	is(t, "Create", d.Create("a"), api.OK)
	has(t, d, "a", "", 0)
	is(t, "Append", d.Append("a", "x"), api.OK)
	has(t, d, "a", "x", 1)
}

func TestF4Rename(t *testing.T) {
	d := mixed(t)
	is(t, "Rename", d.Rename("a", "c"), api.OK)
	has(t, d, "c", "lastnew", 3)
	lists(t, d, 12, "b", "c")
	is(t, "Rename over one", d.Rename("c", "b"), api.OK)
	has(t, d, "b", "lastnew", 3)
	lists(t, d, 13, "b")
	is(t, "Rename to itself", d.Rename("b", "b"), api.OK)
	has(t, d, "b", "lastnew", 3)
	lists(t, d, 13, "b")
	is(t, "Create of the old name", d.Create("a"), api.OK)
	is(t, "Append", d.Append("a", "x"), api.OK)
	has(t, d, "a", "x", 1)
	has(t, d, "b", "lastnew", 3)
}

// TestF5: a crash right behind takes none of these back.
func TestF5LastsAtOnce(t *testing.T) {
	d := mixed(t)
	is(t, "Create", d.Create("c"), api.OK)
	is(t, "Crash", d.Crash(nil), api.OK)
	lists(t, d, 15, "a", "b", "c")
	is(t, "Truncate", d.Truncate("a", 1), api.OK)
	is(t, "Crash", d.Crash(nil), api.OK)
	has(t, d, "a", "l", 0)
	is(t, "Remove", d.Remove("c"), api.OK)
	is(t, "Crash", d.Crash(nil), api.OK)
	lists(t, d, 18, "a", "b")
	is(t, "Rename", d.Rename("a", "b"), api.OK)
	is(t, "Crash", d.Crash(nil), api.OK)
	lists(t, d, 19, "b")
	has(t, d, "b", "l", 0)
}

func TestF6Read(t *testing.T) {
	d := mixed(t)
	const all = "lastnew"
	for from := range len(all) + 1 {
		for n := range len(all) + 1 - from {
			s, e := d.Read("a", from, n)
			if s != all[from:from+n] || e != api.OK {
				t.Errorf("Read(%d, %d): %q, %d", from, n, s, e)
			}
		}
	}
	for _, c := range [][2]int{{-1, 0}, {-1, 1}, {0, -1}, {7, -1}, {8, -1}, {0, 8}, {7, 1}, {8, 0}, {3, 5}, {1, math.MaxInt}, {math.MaxInt, 1}, {math.MaxInt, math.MaxInt}, {math.MinInt, math.MinInt}, {math.MinInt, math.MaxInt}} {
		if s, e := d.Read("a", c[0], c[1]); s != "" || e != api.ErrFileRange {
			t.Errorf("Read(%d, %d): %q, %d", c[0], c[1], s, e)
		}
	}
	s, e := d.Read("c", -1, -1)
	if s != "" || e != api.ErrFileNone {
		t.Errorf("Read of no file: %q, %d", s, e)
	}
	n, e := d.Size("c")
	if n != 0 || e != api.ErrFileNone {
		t.Errorf("Size of no file: %d, %d", n, e)
	}
	wantMixed(t, d)
}

// TestF6Dead: which calls a dead disk refuses, and ahead of what.
func TestF6Dead(t *testing.T) {
	d := mixed(t)
	is(t, "Arm", d.Arm(1), api.OK)
	is(t, "Sync", d.Sync("a"), api.ErrDead)
	for _, name := range []string{"a", "c"} {
		n, size := d.Size(name)
		s, read := d.Read(name, -1, 0)
		for i, e := range []api.Errno{d.Create(name), d.Append(name, strings.Repeat("x", 200)), d.Sync(name), d.Truncate(name, -1), d.Remove(name), d.Rename(name, "b"), size, read} {
			if e != api.ErrDead {
				t.Errorf("call %d of %s: %d", i, name, e)
			}
		}
		if n != 0 || s != "" {
			t.Errorf("a dead disk tells %d, %q", n, s)
		}
	}
	is(t, "Rename to no name", d.Rename("a", ""), api.ErrFileName)
	is(t, "Create of no name", d.Create(""), api.ErrFileName)
	is(t, "Arm", d.Arm(0), api.ErrDead)
	is(t, "Arm below 0", d.Arm(-1), api.ErrArg)
	is(t, "FailSync", d.FailSync(0), api.ErrDead)
	is(t, "FailSync below 0", d.FailSync(math.MinInt), api.ErrArg)
	wantMixedDead(t, d)
}

// TestF6NewMemory: what comes out may be written into.
func TestF6NewMemory(t *testing.T) {
	d := mixed(t)
	l, f := d.List(), d.Files()
	l, f = l[:cap(l)], f[:cap(f)]
	clear(l)
	clear(f)
	wantMixed(t, d)
	wantFiles(t, d, api.File{Name: "a", Bytes: "last"}, api.File{Name: "b", Bytes: "b"})
}

// TestF6AskingIsNoAct: nothing of F6 counts for Arm or for FailSync.
func TestF6AskingIsNoAct(t *testing.T) {
	d := mixed(t)
	is(t, "Arm", d.Arm(2), api.OK)
	is(t, "FailSync", d.FailSync(1), api.OK)
	for range 3 {
		d.Read("a", 0, 1)
		d.Size("a")
		d.Files()
		d.Dead()
	}
	wantMixed(t, d)
	is(t, "Sync", d.Sync("b"), api.ErrFileSync)
	is(t, "Sync", d.Sync("b"), api.ErrDead)
}
