package slot_test

import (
	"testing"

	"confluence/api"
)

func TestL1NoFiles(t *testing.T) {
	d := loaded(t, room)
	costs(t, d, 0, "Open of no files", func() { knows(t, opened(t, d)) })
	holds(t, d)
}

// TestL1Others: files of other names, also of such as are almost the slots', are nothing to it.
func TestL1Others(t *testing.T) {
	right := fileOf(some(1)...)
	others := []api.File{{Name: "slot", Bytes: right}, {Name: "slot.new", Bytes: right}, {Name: "slots.", Bytes: right}, {Name: "slots.ne", Bytes: right}, {Name: "slots.new.new", Bytes: right}, {Name: "slots.new1", Bytes: right}, {Name: "slots.old", Bytes: right}, {Name: "slotsnew", Bytes: right}, {Name: "wal.000001", Bytes: "x"}}
	d := loaded(t, room, others...)
	costs(t, d, 0, "Open among others", func() { knows(t, opened(t, d)) })
	holds(t, d, others...)
	s := opened(t, d)
	is(t, "Create", s.Create(one("a", first, first)), api.OK)
	for _, f := range bytesOf(d) {
		if f.Name != "slots" && f.Bytes != right && f.Bytes != "x" {
			t.Errorf("%s has %q", f.Name, f.Bytes)
		}
	}
	if n := len(d.List()); n != len(others)+1 {
		t.Errorf("the files are %q", d.List())
	}
}

func TestL1Finds(t *testing.T) {
	for n := range 9 {
		l := some(n)
		d := loaded(t, room, slotsFile(fileOf(l...)))
		costs(t, d, 0, "Open", func() { finds(t, d, l...) })
		costs(t, d, 0, "Open again", func() { finds(t, d, l...) })
		holds(t, d, slotsFile(fileOf(l...)))
	}
}

// leftovers are bytes that may have been left aside: also slots that are right, which are not taken.
func leftovers() []string {
	whole := fileOf(one("left", 9999, 9998))
	return []string{"", "x", whole, whole[:7], fileOf(), fileOf(some(8)...)}
}

func TestL1Left(t *testing.T) {
	l := some(2)
	for _, left := range leftovers() {
		d := loaded(t, room, asideFile(left))
		costs(t, d, 1, "Open, with one left", func() { finds(t, d) })
		holds(t, d)

		d = loaded(t, room, slotsFile(fileOf(l...)), asideFile(left))
		is(t, "Append", d.Append("slots.new", "pending"), api.OK)
		costs(t, d, 1, "Open, with both", func() { finds(t, d, l...) })
		holds(t, d, slotsFile(fileOf(l...)))
		costs(t, d, 0, "Open behind it", func() { finds(t, d, l...) })
	}
}

// TestL1LeftAndNoSlots: what was left is taken away ahead of reading, also where no slots are read then.
func TestL1LeftAndNoSlots(t *testing.T) {
	for _, bad := range []string{"", "SL", "x"} {
		d := loaded(t, room, slotsFile(bad), asideFile(fileOf(some(1)...)))
		costs(t, d, 1, "Open", func() { opensNot(t, "no slots", d, api.ErrSlotForm) })
		holds(t, d, slotsFile(bad))
		costs(t, d, 0, "Open again", func() { opensNot(t, "no slots", d, api.ErrSlotForm) })
		holds(t, d, slotsFile(bad))
	}
}

func TestL1DiesInTheRemove(t *testing.T) {
	for _, bytes := range []string{fileOf(some(2)...), "no slots"} {
		all := []api.File{slotsFile(bytes), asideFile("left")}
		d := loaded(t, room, all...)
		is(t, "Arm", d.Arm(1), api.OK)
		opensNot(t, "it dies", d, api.ErrDead)
		opensNot(t, "it is dead", d, api.ErrDead)
		lasts(t, d, all...)
		revive(t, d)
		holds(t, d, all...)
	}
	d := loaded(t, room, slotsFile(fileOf(some(2)...)), asideFile("left"))
	is(t, "Arm", d.Arm(1), api.OK)
	opensNot(t, "it dies", d, api.ErrDead)
	revive(t, d)
	costs(t, d, 1, "Open behind it", func() { finds(t, d, some(2)...) })
}

func TestL1Dead(t *testing.T) {
	for _, all := range [][]api.File{nil, {slotsFile(fileOf(some(2)...))}, {asideFile("left")}, {slotsFile(fileOf()), asideFile("left")}, {slotsFile("no slots")}, {slotsFile("no slots"), asideFile("")}} {
		d := loaded(t, room, all...)
		kill(t, d)
		opensNot(t, "a dead disk", d, api.ErrDead)
		lasts(t, d, all...)
		revive(t, d)
		holds(t, d, all...)
	}
}

// TestL1Pending: what does not last yet is read as what does.
func TestL1Pending(t *testing.T) {
	bytes := fileOf(some(3)...)
	d := loaded(t, room, slotsFile(bytes[:20]))
	is(t, "Append", d.Append("slots", bytes[20:]), api.OK)
	finds(t, d, some(3)...)
}
