package slot_test

import (
	"slices"
	"strings"
	"testing"

	"confluence/api"
)

func TestL2Right(t *testing.T) {
	for _, x := range rightSlots() {
		d, s := begun(t, room)
		costs(t, d, 4, "Create", func() { is(t, "Create", s.Create(x), api.OK) })
		knows(t, s, x)
		holds(t, d, slotsFile(fileOf(x)))
		finds(t, d, x)
	}
}

func TestL2Names(t *testing.T) {
	for n := range 3 {
		d, s := begun(t, room, some(n)...)
		before := bytesOf(d)
		costs(t, d, 0, "Create of no name", func() {
			for _, name := range noNames {
				x := one("m", 9000, first)
				x.Name = name
				is(t, "Create of no name", s.Create(x), api.ErrSlotName)
			}
		})
		holds(t, d, before...)
		knows(t, s, some(n)...)
	}
}

// TestL2EachByte: each byte as a name's first one, and as one behind it.
func TestL2EachByte(t *testing.T) {
	for b := range 256 {
		c := char(b)
		letter := strings.Contains("abcdefghijklmnopqrstuvwxyz", c)
		later := letter || strings.Contains("0123456789_", c)
		for _, try := range []struct {
			name string
			is   bool
		}{{c, letter}, {c + "a", letter}, {"a" + c, later}, {"a" + c + "a", later}, {"abcdefghijklmno" + c, later}, {"abcdefghijklmnop" + c, false}} {
			_, s := begun(t, room)
			x := one("m", 9000, first)
			x.Name = try.name
			want := api.ErrSlotName
			if try.is {
				want = api.OK
			}
			is(t, "Create of "+try.name, s.Create(x), want)
		}
	}
}

func TestL2Wrong(t *testing.T) {
	d, s := begun(t, room, some(2)...)
	before := bytesOf(d)
	costs(t, d, 0, "Create of what is not right", func() {
		for _, x := range wrongSlots() {
			want := api.ErrArg
			if slices.Contains(noNames, x.Name) {
				want = api.ErrSlotName
			} else if ruledPlaces(x.Confirmed, x.Restart) {
				want = api.ErrPublishForm
			}
			if e := s.Create(x); e != want {
				t.Errorf("Create(%+v): %d, want %d", x, e, want)
			}
		}
	})
	holds(t, d, before...)
	knows(t, s, some(2)...)
}

func TestL2Places(t *testing.T) {
	edges := append([]int{first, first + 1, 9000, top - 1, top}, noPositions...)
	for _, confirmed := range edges {
		for _, restart := range edges {
			_, s := begun(t, room)
			x := one("a", confirmed, restart)
			if ruledPlaces(confirmed, restart) {
				is(t, "Create", s.Create(x), api.OK)
				knows(t, s, x)
			} else {
				is(t, "Create", s.Create(x), api.ErrArg)
				knows(t, s)
			}
		}
	}
}

func TestL2There(t *testing.T) {
	for n := 1; n <= 8; n++ {
		l := some(n)
		d, s := begun(t, room, l...)
		before := bytesOf(d)
		costs(t, d, 0, "Create of one that is there", func() {
			for _, x := range l {
				is(t, "the same", s.Create(x), api.ErrSlotThere)
				x.Publication, x.Confirmed, x.Restart = widest(), top, top
				is(t, "another of that name", s.Create(x), api.ErrSlotThere)
			}
		})
		holds(t, d, before...)
		knows(t, s, l...)
	}
}

// TestL2Order: in whatever order they come, they stand by rising names.
func TestL2Order(t *testing.T) {
	l := []api.Slot{one("a", 9000, first), one("a0", 9001, first), one("a_", 9002, first), one("aa", 9003, first), one("b", 9004, first)}
	for _, order := range permutations(len(l)) {
		d, s := begun(t, room)
		for _, i := range order {
			is(t, "Create", s.Create(l[i]), api.OK)
		}
		knows(t, s, l...)
		finds(t, d, l...)
		holds(t, d, slotsFile(fileOf(l...)))
	}
}

// permutations are all orders of so many.
func permutations(n int) [][]int {
	if n == 0 {
		return [][]int{nil}
	}
	var all [][]int
	for _, l := range permutations(n - 1) {
		for i := range n {
			all = append(all, slices.Insert(slices.Clone(l), i, n-1))
		}
	}
	return all
}

func TestL2Many(t *testing.T) {
	d, s := begun(t, room)
	l := some(8)
	for i, x := range l {
		costs(t, d, 4, "Create", func() { is(t, "Create", s.Create(x), api.OK) })
		knows(t, s, l[:i+1]...)
		holds(t, d, slotsFile(fileOf(l[:i+1]...)))
	}
	costs(t, d, 0, "the ninth", func() {
		for _, name := range []string{"a", "aa", "d0", "z", strings.Repeat("z", 16)} {
			is(t, "the ninth", s.Create(one(name, 9000, first)), api.ErrSlotMany)
		}
	})
	knows(t, s, l...)
	finds(t, d, l...)
	is(t, "Drop", s.Drop("c"), api.OK)
	is(t, "the eighth again", s.Create(one("a", 9000, first)), api.OK)
	is(t, "the ninth again", s.Create(one("c", 9000, first)), api.ErrSlotMany)
	finds(t, d, append([]api.Slot{one("a", 9000, first), l[0]}, l[2:]...)...)
}

// TestL2FirstNamed: of several errors the one that is named first; of a dead disk, of one that dies and of one without room all the same.
func TestL2FirstNamed(t *testing.T) {
	bad := api.Slot{Name: "A", Publication: api.Publication{Name: "p"}, Confirmed: 1, Restart: 2}
	noName, noPublication, noPlaces, there, ninth := bad, bad, bad, some(1)[0], one("zz", 9000, first)
	noPublication.Name = "b"
	noPlaces.Name, noPlaces.Publication = "b", pub("p")
	check := func(s interface{ Create(api.Slot) api.Errno }) {
		t.Helper()
		is(t, "no name", s.Create(noName), api.ErrSlotName)
		is(t, "no publication", s.Create(noPublication), api.ErrPublishForm)
		is(t, "no places", s.Create(noPlaces), api.ErrArg)
		is(t, "there", s.Create(there), api.ErrSlotThere)
		is(t, "the ninth", s.Create(ninth), api.ErrSlotMany)
		is(t, "no slot at all", s.Create(api.Slot{}), api.ErrSlotName)
	}
	d, s := begun(t, len(fileOf(some(8)...)), some(8)...)
	check(s)
	is(t, "Arm", d.Arm(1), api.OK)
	check(s)
	if d.Dead() {
		t.Error("what is refused is no act")
	}
	kill(t, d)
	check(s)
	knows(t, s, some(8)...)
}
