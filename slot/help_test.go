package slot_test

import (
	"fmt"
	"hash/crc32"
	"math"
	"reflect"
	"slices"
	"strings"
	"testing"

	"confluence/api"
	"confluence/files"
	"confluence/slot"
)

const (
	first = 8192      // the first position
	top   = 819208192 // the greatest one
	room  = 600000    // of a disk that never fills
)

// names are some that may be, at both ends of what a name may have.
var names = []string{"a", "z", "pub", "a0", "a9", "a_", "x__", "abcdefghijklmnop", "a123456789012345", "a_______________"}

// noNames are none.
var noNames = []string{"", "_", "0", "_a", "9a", "A", "aA", "Z", " ", " a", "a ", "a b", "a-", "a.b", ".", "slots.new", "\x00", "a\x00", "a\n", "a`", "a{", "é", "aé", "\xff", "'a'", "abcdefghijklmnopq", "abcdefghijklmnoP", strings.Repeat("a", 32), strings.Repeat("a", 272), strings.Repeat("a", 1<<16)}

// noPositions are no places of a log.
var noPositions = []int{math.MinInt, math.MinInt + 1, -top, -9000, -8192, -1, 0, 1, 8191, top + 1, top + 8192, 1<<31 - 1, 1 << 31, 1<<32 + 9000, math.MaxInt - 1, math.MaxInt}

func is(t *testing.T, what string, got, want api.Errno) {
	t.Helper()
	if got != want {
		t.Errorf("%s: %d, want %d", what, got, want)
	}
}

// pub is a right publication, with lists at each depth.
func pub(name string) api.Publication {
	return api.Publication{Name: name, Tables: []api.Published{{Table: "t", Kinds: 15, Columns: []string{"a", "b"}, Filter: "n > 1"}, {Table: "u", Kinds: 1}, {Table: "v", Kinds: 6, Columns: []string{"c"}}}}
}

// widest is a right publication of the most bytes that there may be.
func widest() api.Publication {
	p := api.Publication{Name: strings.Repeat("p", 16)}
	for i := range 8 {
		x := api.Published{Table: strings.Repeat("t", 15) + string(rune('a'+i)), Kinds: 15, Filter: "n = 1" + strings.Repeat(" ", 395)}
		for k := range 8 {
			x.Columns = append(x.Columns, strings.Repeat("c", 15)+string(rune('a'+k)))
		}
		p.Tables = append(p.Tables, x)
	}
	return p
}

// wrongPublications have each one thing wrong.
func wrongPublications() []api.Publication {
	one := api.Published{Table: "t", Kinds: 1}
	nine := widest()
	nine.Tables = append(nine.Tables, one)
	long := widest()
	long.Tables[7].Filter += " "
	return []api.Publication{
		{}, {Name: "p"}, {Name: "p", Tables: []api.Published{}}, {Tables: []api.Published{one}}, {Name: "P", Tables: []api.Published{one}}, {Name: strings.Repeat("p", 17), Tables: []api.Published{one}},
		{Name: "p", Tables: []api.Published{one, one}}, {Name: "p", Tables: []api.Published{{Kinds: 1}}}, {Name: "p", Tables: []api.Published{{Table: "t"}}}, {Name: "p", Tables: []api.Published{{Table: "t", Kinds: 16}}},
		{Name: "p", Tables: []api.Published{{Table: "t", Kinds: 1, Columns: []string{"a", "a"}}}}, {Name: "p", Tables: []api.Published{{Table: "t", Kinds: 1, Filter: "n >"}}}, nine, long,
	}
}

// one is a right slot; its publication's name is like its own.
func one(name string, confirmed, restart int) api.Slot {
	return api.Slot{Name: name, Publication: pub("p" + name[:1]), Confirmed: confirmed, Restart: restart}
}

// some are so many right slots, by rising names.
func some(n int) []api.Slot {
	var l []api.Slot
	for i := range n {
		l = append(l, one(string(rune('b'+i)), 9000+1000*i, first+40*(n-i)))
	}
	return l
}

// same tells whether two slots are the same; a list without elements may be nil or not.
func same(a, b api.Slot) bool {
	columns := func(x, y api.Published) bool {
		return x.Table == y.Table && x.Kinds == y.Kinds && x.Filter == y.Filter && slices.Equal(x.Columns, y.Columns)
	}
	return a.Name == b.Name && a.Confirmed == b.Confirmed && a.Restart == b.Restart && a.Publication.Name == b.Publication.Name && slices.EqualFunc(a.Publication.Tables, b.Publication.Tables, columns)
}

func sameAll(a, b []api.Slot) bool { return slices.EqualFunc(a, b, same) }

func isZero(x api.Slot) bool { return reflect.DeepEqual(x, api.Slot{}) }

// char is a byte as a text.
func char(b int) string { return string([]byte{byte(b)}) }

// digits are those of a number, as layer 1 says it: lowest first, 128 added to all but the last.
func digits(n int) string {
	out := ""
	for ; n >= 128; n /= 128 {
		out += char(n%128 + 128)
	}
	return out + char(n)
}

// longer is a number with a digit more than it needs.
func longer(n int) string {
	s := digits(n)
	return s[:len(s)-1] + char(int(s[len(s)-1])+128) + "\x00"
}

func textOf(s string) string { return digits(len(s)) + s }

// publicationOf is one as bytes, by the words of layer 18.
func publicationOf(p api.Publication) string {
	out := textOf(p.Name) + char(len(p.Tables))
	for _, t := range p.Tables {
		out += textOf(t.Table) + char(t.Kinds) + char(len(t.Columns))
		for _, c := range t.Columns {
			out += textOf(c)
		}
		out += textOf(t.Filter)
	}
	return out
}

// slotOf is a slot as bytes, by the chapter's words.
func slotOf(x api.Slot) string {
	return textOf(x.Name) + digits(x.Confirmed) + digits(x.Restart) + textOf(publicationOf(x.Publication))
}

// sealed has the check behind bytes, the lowest byte first.
func sealed(s string) string {
	c := int(crc32.Checksum([]byte(s), crc32.MakeTable(crc32.Castagnoli)))
	return s + char(c) + char(c>>8) + char(c>>16) + char(c>>24)
}

// counted is a file that says how many slots it has, with whatever bytes stand for them.
func counted(n int, l ...string) string { return sealed("SL" + char(n) + strings.Join(l, "")) }

// fileOf is the file of slots, be they right or not, in the order in which they are told.
func fileOf(l ...api.Slot) string {
	var all []string
	for _, x := range l {
		all = append(all, slotOf(x))
	}
	return counted(len(l), all...)
}

// slotsFile and asideFile are the two files with these bytes.
func slotsFile(bytes string) api.File { return api.File{Name: "slots", Bytes: bytes} }
func asideFile(bytes string) api.File { return api.File{Name: "slots.new", Bytes: bytes} }

// loaded is a disk with these files, all of which last.
func loaded(t *testing.T, capacity int, l ...api.File) *files.Disk {
	t.Helper()
	d, e := files.Load(capacity, l)
	if d == nil || e != api.OK {
		t.Fatalf("Load: %d", e)
	}
	return d
}

func opened(t *testing.T, d *files.Disk) *slot.Slots {
	t.Helper()
	s, e := slot.Open(d)
	if s == nil || e != api.OK {
		t.Fatalf("Open: %d", e)
	}
	return s
}

func opensNot(t *testing.T, what string, d *files.Disk, want api.Errno) {
	t.Helper()
	if s, e := slot.Open(d); s != nil || e != want {
		t.Errorf("Open, %s: %v, %d, want %d", what, s, e, want)
	}
}

// begun is a disk with these slots, and a thing that has opened them.
func begun(t *testing.T, capacity int, l ...api.Slot) (*files.Disk, *slot.Slots) {
	t.Helper()
	d := loaded(t, capacity)
	if len(l) > 0 {
		d = loaded(t, capacity, slotsFile(fileOf(l...)))
	}
	return d, opened(t, d)
}

// knows holds all that is told against these slots, which stand by rising names.
func knows(t *testing.T, s *slot.Slots, want ...api.Slot) {
	t.Helper()
	if got := s.List(); !sameAll(got, want) {
		t.Errorf("List: %+v, want %+v", got, want)
	}
	least := 0
	for i, x := range want {
		if got, e := s.Get(x.Name); !same(got, x) || e != api.OK {
			t.Errorf("Get(%q): %+v, %d, want %+v", x.Name, got, e, x)
		}
		if i == 0 || x.Restart < least {
			least = x.Restart
		}
	}
	if n, any := s.Least(); n != least || any != (len(want) > 0) {
		t.Errorf("Least: %d, %t, want %d, %t", n, any, least, len(want) > 0)
	}
}

// finds opens a disk's slots anew, and holds them against these.
func finds(t *testing.T, d *files.Disk, want ...api.Slot) *slot.Slots {
	t.Helper()
	s := opened(t, d)
	knows(t, s, want...)
	return s
}

// bytesOf has of a living disk each file's name and bytes, pending or not.
func bytesOf(d *files.Disk) []api.File {
	var out []api.File
	for _, name := range d.List() {
		n, _ := d.Size(name)
		s, _ := d.Read(name, 0, n)
		out = append(out, api.File{Name: name, Bytes: s})
	}
	return out
}

// lasts holds a disk, dead or not, against its files with the bytes that last.
func lasts(t *testing.T, d *files.Disk, want ...api.File) {
	t.Helper()
	if got := d.Files(); !slices.Equal(got, want) {
		t.Errorf("what lasts is %q, want %q", got, want)
	}
}

// holds holds a living disk's files against these, of which all bytes last.
func holds(t *testing.T, d *files.Disk, want ...api.File) {
	t.Helper()
	if got := bytesOf(d); !slices.Equal(got, want) {
		t.Errorf("the files are %q, want %q", got, want)
	}
	lasts(t, d, want...)
}

// costs holds a call against how many acts it does; behind that the disk lives, and all its bytes last.
func costs(t *testing.T, d *files.Disk, want int, what string, call func()) {
	t.Helper()
	is(t, "Arm", d.Arm(want+1), api.OK)
	call()
	if d.Dead() {
		t.Fatalf("%s: more acts than %d", what, want)
	}
	if d.Create("probe") != api.ErrDead {
		t.Fatalf("%s: fewer acts than %d", what, want)
	}
	revive(t, d)
}

// kill lets a disk die by an act of somebody else's.
func kill(t *testing.T, d *files.Disk) {
	t.Helper()
	is(t, "Arm", d.Arm(1), api.OK)
	is(t, "Create", d.Create("probe"), api.ErrDead)
}

// revive is a crash that keeps all bytes.
func revive(t *testing.T, d *files.Disk) {
	t.Helper()
	crash(t, d, math.MaxInt)
}

// crash keeps of each file at most so many of those bytes that do not last.
func crash(t *testing.T, d *files.Disk, most int) {
	t.Helper()
	var l []api.Keep
	for _, name := range d.List() {
		l = append(l, api.Keep{Name: name, Bytes: min(most, d.Pending(name))})
	}
	is(t, "Crash", d.Crash(l), api.OK)
}

// deed is a call that writes: how it is called, ahead of it and behind it all slots.
type deed struct {
	what          string
	call          func(s *slot.Slots) api.Errno
	ahead, behind []api.Slot
}

// with is slots with one of them at other places.
func with(l []api.Slot, i, confirmed, restart int) []api.Slot {
	l = slices.Clone(l)
	l[i].Confirmed, l[i].Restart = confirmed, restart
	return l
}

// deeds has each call that writes, with few and many slots there.
func deeds() []deed {
	var l []deed
	create := func(i, n int) {
		all := some(n)
		ahead := slices.Delete(slices.Clone(all), i, i+1)
		l = append(l, deed{fmt.Sprint("Create ", i, " of ", n), func(s *slot.Slots) api.Errno { return s.Create(all[i]) }, ahead, all})
	}
	drop := func(i, n int) {
		all := some(n)
		behind := slices.Delete(slices.Clone(all), i, i+1)
		l = append(l, deed{fmt.Sprint("Drop ", i, " of ", n), func(s *slot.Slots) api.Errno { return s.Drop(all[i].Name) }, all, behind})
	}
	advance := func(i, n, by, restartBy int) {
		all := some(n)
		confirmed, restart := all[i].Confirmed+by, all[i].Restart+restartBy
		l = append(l, deed{fmt.Sprint("Advance ", i, " of ", n), func(s *slot.Slots) api.Errno { return s.Advance(all[i].Name, confirmed, restart) }, all, with(all, i, confirmed, restart)})
	}
	create(0, 1)
	create(0, 3)
	create(1, 3)
	create(2, 3)
	create(4, 8)
	drop(0, 1)
	drop(0, 2)
	drop(1, 3)
	drop(7, 8)
	advance(0, 1, 1, 0)
	advance(0, 1, 0, 1)
	advance(1, 3, 700000000, 100)
	advance(7, 8, 50, 50)
	return l
}
