package spill_test

import (
	"slices"
	"strings"
	"testing"

	"confluence/api"
	"confluence/spill"
)

// notNames are texts that are no names.
func notNames() []string {
	return []string{"", "A", "aB", "1", "1a", "_", "_a", "-", "a-b", "a.b", ".", "a.", "a b", " a", "a ", "é", "aé", "a\x00", "a\n", "\xff", "a\xff", "a/b", "a'", strings.Repeat("a", 17), strings.Repeat("a", 1000)}
}

func TestS1Names(t *testing.T) {
	d := loaded(t, 1000, api.File{Name: "spill.a.1.0", Bytes: "x"}, api.File{Name: "spill..1.0"}, api.File{Name: "spill.1.1.0"})
	before := bytesOf(d)
	costs(t, d, 0, "Open of no name", func() {
		for _, name := range notNames() {
			opensNot(t, d, name, api.ErrArg)
		}
	})
	holds(t, d, before...)
	kill(t, d)
	for _, name := range notNames() {
		opensNot(t, d, name, api.ErrArg)
	}
	for _, name := range []string{"a", "z", "a_", "a__", "a0", "z9", "abc", "a_9", strings.Repeat("z", 16), "a" + strings.Repeat("_", 15)} {
		d := loaded(t, 1000)
		s := opened(t, d, name)
		knows(t, s)
		lists(t, d)
		writes(t, s, api.MaxXid, api.OK, change(1, 1))
		lists(t, d, "spill."+name+".2147483647.0")
	}
}

// TestS1EachByte: each byte as a name's first one, and as one behind it.
func TestS1EachByte(t *testing.T) {
	d := loaded(t, 1000)
	for b := range 256 {
		c := string([]byte{byte(b)})
		first := strings.Contains("abcdefghijklmnopqrstuvwxyz", c)
		later := first || strings.Contains("0123456789_", c)
		for _, x := range []struct {
			name string
			is   bool
		}{{c, first}, {c + "a", first}, {"a" + c, later}, {"a" + c + "a", later}} {
			s, e := spill.Open(d, x.name)
			if x.is != (e == api.OK) || x.is != (s != nil) || !x.is && e != api.ErrArg {
				t.Errorf("Open(%q): %d", x.name, e)
			}
		}
	}
}

// crowd has files of a store a, of names that begin likewise, and of others; only is those of the store, by rising names.
func crowd() (all []api.File, only []string) {
	only = []string{"spill.a.", "spill.a.-", "spill.a..", "spill.a.0.0", "spill.a.1", "spill.a.1.0", "spill.a.1.0.0", "spill.a.1.1", "spill.a.1.10", "spill.a.1.2", "spill.a.10.0", "spill.a.2.0", "spill.a._", "spill.a.a.1.0", "spill.a.zz"}
	for _, name := range []string{"a", "a.1.0", "other", "spill", "spill.", "spill.a", "spill.a-.1.0", "spill.a1.0", "spill.a_.1.0", "spill.aa.1.0", "spill.ab.1.0", "spill.b.1.0", "spilla.1.0", "wal.000001", "xspill.a.1.0"} {
		all = append(all, api.File{Name: name, Bytes: "of " + name})
	}
	for i, name := range only {
		all = append(all, api.File{Name: name, Bytes: strings.Repeat("x", i)})
	}
	return all, only
}

// without has the names of files but these.
func without(all []api.File, gone []string) []string {
	var out []string
	for _, f := range all {
		if !slices.Contains(gone, f.Name) {
			out = append(out, f.Name)
		}
	}
	slices.Sort(out)
	return out
}

func TestS1TakesAway(t *testing.T) {
	all, only := crowd()
	d := loaded(t, 10000, all...)
	is(t, "Append", d.Append("spill.a.1.0", "pending"), api.OK)
	is(t, "Append", d.Append("spill.ab.1.0", "more"), api.OK)
	costs(t, d, len(only), "Open", func() { knows(t, opened(t, d, "a")) })
	lists(t, d, without(all, only)...)
	for _, f := range bytesOf(d) {
		want := "of " + f.Name
		if f.Name == "spill.ab.1.0" {
			want += "more"
		}
		if f.Bytes != want {
			t.Errorf("%s has %q", f.Name, f.Bytes)
		}
	}
	costs(t, d, 0, "Open with nothing to take away", func() { knows(t, opened(t, d, "a")) })
}

// TestS1Dies: in whatever act it dies, those that come ahead by their names are gone, and no others.
func TestS1Dies(t *testing.T) {
	all, only := crowd()
	for n := range only {
		d := loaded(t, 10000, all...)
		is(t, "Arm", d.Arm(n+1), api.OK)
		opensNot(t, d, "a", api.ErrDead)
		lists(t, d, without(all, only[:n])...)
		opensNot(t, d, "a", api.ErrDead)
		opensNot(t, d, "q", api.ErrDead)
		lists(t, d, without(all, only[:n])...)
		revive(t, d)
		costs(t, d, len(only)-n, "Open behind it", func() { knows(t, opened(t, d, "a")) })
		lists(t, d, without(all, only)...)
	}
}

func TestS1Dead(t *testing.T) {
	d := loaded(t, 100)
	kill(t, d)
	opensNot(t, d, "a", api.ErrDead)
	opensNot(t, d, "A", api.ErrArg)
	d = loaded(t, 100, api.File{Name: "spill.a.1.0"}, api.File{Name: "spill.b.1.0"})
	kill(t, d)
	opensNot(t, d, "a", api.ErrDead)
	opensNot(t, d, "c", api.ErrDead)
	lists(t, d, "spill.a.1.0", "spill.b.1.0")
}

// TestS1Anew: what a store of that name had is gone.
func TestS1Anew(t *testing.T) {
	d, s := begun(t, 10000)
	writes(t, s, 7, api.OK, change(1, 7))
	writes(t, s, 7, api.OK, change(2, 7))
	writes(t, s, 3, api.OK, change(3, 3))
	revive(t, d)
	lists(t, d, named(3, 0), named(7, 0), named(7, 1))
	again := opened(t, d, "a")
	knows(t, again)
	lists(t, d)
	cursorNot(t, again, 7, 0, api.ErrSpillNone)
	writes(t, again, 7, api.OK, change(9, 7))
	reads(t, again, 7, 0, api.OK, change(9, 7))
}
