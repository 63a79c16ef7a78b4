package slot_test

import (
	"strings"
	"testing"

	"confluence/api"
	"confluence/files"
	"confluence/slot"
)

// filesOf is a disk's file of slots, if it was ever written, with those that stand behind it.
func filesOf(l []api.Slot, more ...api.File) []api.File {
	if len(l) == 0 {
		return more
	}
	return append([]api.File{slotsFile(fileOf(l...))}, more...)
}

// stopped is how a disk stands in which a deed died in one of its acts: the files with what lasts of them, and what is pending of `slots.new`.
type stopped struct {
	what    string
	files   []api.File
	pending int
}

// stops are all of them, in the order of the acts; with what was left, a remove is the first.
func stops(c deed, left *string) []stopped {
	var l []stopped
	if left != nil {
		l = append(l, stopped{"remove", filesOf(c.ahead, asideFile(*left)), 0})
	}
	bytes := fileOf(c.behind...)
	return append(l,
		stopped{"create", filesOf(c.ahead), 0},
		stopped{"append", filesOf(c.ahead, asideFile("")), 0},
		stopped{"sync", filesOf(c.ahead, asideFile("")), len(bytes)},
		stopped{"rename", filesOf(c.ahead, asideFile(bytes)), 0})
}

// ready is a disk ahead of a deed, with its slots; left, if it is not nil, was left aside while they were open.
func ready(t *testing.T, c deed, capacity int, left *string) (*files.Disk, *slot.Slots) {
	t.Helper()
	d, s := begun(t, capacity, c.ahead...)
	if left != nil {
		is(t, "Create", d.Create("slots.new"), api.OK)
		is(t, "Append", d.Append("slots.new", *left), api.OK)
		is(t, "Sync", d.Sync("slots.new"), api.OK)
	}
	return d, s
}

// lefts are nothing, and what may have been left.
func lefts() []*string {
	l := []*string{nil}
	for _, left := range leftovers() {
		l = append(l, &left)
	}
	return l
}

// acts is how many a deed does.
func acts(left *string) int {
	if left != nil {
		return 5
	}
	return 4
}

func TestActs(t *testing.T) {
	for _, c := range deeds() {
		for _, left := range lefts() {
			d, s := ready(t, c, room, left)
			costs(t, d, acts(left), c.what, func() { is(t, c.what, c.call(s), api.OK) })
			knows(t, s, c.behind...)
			holds(t, d, slotsFile(fileOf(c.behind...)))
			costs(t, d, 0, "Open behind it", func() { finds(t, d, c.behind...) })
		}
	}
}

// TestDeathAtEachAct: which act it was is seen by how the files stand; nothing is changed, all that is told is as it was.
func TestDeathAtEachAct(t *testing.T) {
	for _, c := range deeds() {
		for _, left := range lefts() {
			for i, stop := range stops(c, left) {
				d, s := ready(t, c, room, left)
				is(t, "Arm", d.Arm(i+1), api.OK)
				is(t, c.what+", dying in "+stop.what, c.call(s), api.ErrDead)
				if !d.Dead() {
					t.Errorf("%s: no act %d", c.what, i+1)
				}
				lasts(t, d, stop.files...)
				if n := d.Pending("slots.new"); n != stop.pending {
					t.Errorf("%s, dying in %s: %d bytes are pending, want %d", c.what, stop.what, n, stop.pending)
				}
				knows(t, s, c.ahead...)
				is(t, c.what+" of a dead disk", c.call(s), api.ErrDead)
				opensNot(t, "of a dead disk", d, api.ErrDead)
				lasts(t, d, stop.files...)
				knows(t, s, c.ahead...)
			}
		}
	}
}

// again does a deed on a disk that lives again, by the slots that were open: it removes what was left ahead of its other acts.
func again(t *testing.T, c deed, d *files.Disk, s *slot.Slots) {
	t.Helper()
	n := 4
	if len(d.List()) > len(filesOf(c.ahead)) {
		n = 5
	}
	costs(t, d, n, c.what+" again", func() { is(t, c.what+" again", c.call(s), api.OK) })
	knows(t, s, c.behind...)
	holds(t, d, slotsFile(fileOf(c.behind...)))
}

// TestDeathAndAgain: behind each death, and each crash, the call is done anew by the slots that were open.
func TestDeathAndAgain(t *testing.T) {
	for _, c := range deeds() {
		for _, left := range lefts()[:3] {
			for i := range stops(c, left) {
				for _, keep := range []int{0, 1, 50, room} {
					d, s := ready(t, c, room, left)
					is(t, "Arm", d.Arm(i+1), api.OK)
					is(t, c.what, c.call(s), api.ErrDead)
					crash(t, d, keep)
					knows(t, s, c.ahead...)
					again(t, c, d, s)
				}
			}
		}
	}
}

func TestSyncFails(t *testing.T) {
	for _, c := range deeds() {
		for _, left := range lefts() {
			d, s := ready(t, c, room, left)
			is(t, "FailSync", d.FailSync(1), api.OK)
			bytes := fileOf(c.behind...)
			costs(t, d, acts(left)-1, c.what, func() {
				is(t, c.what, c.call(s), api.ErrFileSync)
				lasts(t, d, filesOf(c.ahead, asideFile(""))...)
				if n := d.Pending("slots.new"); n != len(bytes) {
					t.Errorf("%s: %d bytes are pending, want %d", c.what, n, len(bytes))
				}
			})
			knows(t, s, c.ahead...)
			again(t, c, d, s)
		}
	}
}

// TestSyncFailsAndOpen: an Open behind a Sync that failed finds what was there, and removes what was left.
func TestSyncFailsAndOpen(t *testing.T) {
	for _, c := range deeds() {
		d, s := ready(t, c, room, nil)
		is(t, "FailSync", d.FailSync(1), api.OK)
		is(t, c.what, c.call(s), api.ErrFileSync)
		costs(t, d, 1, "Open", func() { finds(t, d, c.ahead...) })
		holds(t, d, filesOf(c.ahead)...)
		is(t, "FailSync", d.FailSync(2), api.OK)
		is(t, c.what, c.call(s), api.OK)
		knows(t, s, c.behind...)
	}
}

// TestRoom: there must be room for the old file and the new one side by side; what was left aside is gone by then.
func TestRoom(t *testing.T) {
	for _, c := range deeds() {
		ahead, bytes := 0, len(fileOf(c.behind...))
		if len(c.ahead) > 0 {
			ahead = len(fileOf(c.ahead...))
		}
		for _, left := range []string{"", "x", strings.Repeat("x", bytes-1)} {
			d, s := ready(t, c, ahead+bytes, &left)
			is(t, c.what+", just enough room", c.call(s), api.OK)
			holds(t, d, slotsFile(fileOf(c.behind...)))

			d, s = ready(t, c, ahead+bytes-1, &left)
			costs(t, d, 2, c.what, func() { is(t, c.what+", a byte too few", c.call(s), api.ErrFileFull) })
			knows(t, s, c.ahead...)
			holds(t, d, filesOf(c.ahead, asideFile(""))...)
			costs(t, d, 2, c.what, func() { is(t, c.what+", a byte too few", c.call(s), api.ErrFileFull) })
			costs(t, d, 1, "Open", func() { finds(t, d, c.ahead...) })
			holds(t, d, filesOf(c.ahead)...)
		}
		d, s := ready(t, c, ahead+bytes, nil)
		is(t, "Create", d.Create("fill"), api.OK)
		is(t, "Append", d.Append("fill", "x"), api.OK)
		costs(t, d, 1, c.what, func() { is(t, c.what+", others have the room", c.call(s), api.ErrFileFull) })
		knows(t, s, c.ahead...)
		is(t, "Remove", d.Remove("fill"), api.OK)
		again(t, c, d, s)
	}
}

// TestSeveralDue: of what is refused in one call the first is told, and nothing behind it is tried.
func TestSeveralDue(t *testing.T) {
	for _, c := range deeds() {
		tight := len(fileOf(c.behind...)) - 1
		if len(c.ahead) > 0 {
			tight += len(fileOf(c.ahead...))
		}
		d, s := ready(t, c, tight, nil)
		is(t, "Arm", d.Arm(1), api.OK)
		is(t, c.what+": it dies in the create, and there is no room", c.call(s), api.ErrDead)
		lasts(t, d, filesOf(c.ahead)...)

		d, s = ready(t, c, tight, nil)
		is(t, "Arm", d.Arm(2), api.OK)
		is(t, "FailSync", d.FailSync(1), api.OK)
		is(t, c.what+": no room, ahead of all that is due", c.call(s), api.ErrFileFull)
		is(t, c.what+": the next act is the remove", c.call(s), api.ErrDead)

		d, s = ready(t, c, room, nil)
		is(t, "Arm", d.Arm(3), api.OK)
		is(t, "FailSync", d.FailSync(1), api.OK)
		is(t, c.what+": both are due in the sync", c.call(s), api.ErrDead)

		d, s = ready(t, c, room, nil)
		is(t, "Arm", d.Arm(4), api.OK)
		is(t, "FailSync", d.FailSync(1), api.OK)
		is(t, c.what+": the sync fails ahead of the death", c.call(s), api.ErrFileSync)
		is(t, c.what+": it dies in the remove", c.call(s), api.ErrDead)
		lasts(t, d, filesOf(c.ahead, asideFile(""))...)
		knows(t, s, c.ahead...)
	}
}
