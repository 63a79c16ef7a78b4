package files_test

import (
	"math"
	"slices"
	"testing"

	"confluence/api"
	"confluence/files"
)

// TestF2DiesInTheAct: in whatever act the disk dies, nothing is done.
func TestF2DiesInTheAct(t *testing.T) {
	for _, a := range acts() {
		d := mixed(t)
		is(t, "Arm", d.Arm(1), api.OK)
		wantMixed(t, d)
		is(t, a.what, a.call(d), api.ErrDead)
		is(t, a.what+", once more", a.call(d), api.ErrDead)
		wantMixedDead(t, d)
		is(t, a.what+" behind the crash", a.call(d), api.OK)
	}
}

// TestF2Refusals: what is refused changes nothing, and is no act.
func TestF2Refusals(t *testing.T) {
	for _, r := range refusals() {
		d := mixed(t)
		is(t, "Arm", d.Arm(2), api.OK)
		is(t, "FailSync", d.FailSync(1), api.OK)
		for range 3 {
			is(t, r.what, r.call(d), r.want)
		}
		wantMixed(t, d)
		is(t, "Sync behind "+r.what, d.Sync("a"), api.ErrFileSync)
		is(t, "Sync behind "+r.what, d.Sync("a"), api.ErrDead)
	}
}

// TestF7EachActCounts: the disk dies in the second act, whatever the first one was.
func TestF7EachActCounts(t *testing.T) {
	for _, a := range acts() {
		d := mixed(t)
		is(t, "Arm", d.Arm(2), api.OK)
		is(t, a.what, a.call(d), api.OK)
		if d.Dead() {
			t.Errorf("it is dead behind %s", a.what)
		}
		is(t, "Create behind "+a.what, d.Create("d"), api.ErrDead)
		if !d.Dead() {
			t.Errorf("it lives behind %s and a Create", a.what)
		}
	}
}

func TestF7Arm(t *testing.T) {
	for n := 1; n < 6; n++ {
		d := made(t, 100, "a")
		is(t, "Arm", d.Arm(n), api.OK)
		for range n - 1 {
			is(t, "Append", d.Append("a", "x"), api.OK)
		}
		is(t, "the last Append", d.Append("a", "x"), api.ErrDead)
		lists(t, d, 100-(n-1), "a")
	}
	d := made(t, 100, "a")
	for _, n := range []int{-1, math.MinInt} {
		is(t, "Arm below 0", d.Arm(n), api.ErrArg)
		is(t, "FailSync below 0", d.FailSync(n), api.ErrArg)
	}
	is(t, "Arm", d.Arm(math.MaxInt), api.OK)
	is(t, "Sync", d.Sync("a"), api.OK)
}

func TestF7ArmInPlaceOfAnother(t *testing.T) {
	d := made(t, 100, "a")
	is(t, "Arm", d.Arm(1), api.OK)
	is(t, "Arm of none", d.Arm(0), api.OK)
	is(t, "Sync", d.Sync("a"), api.OK)
	is(t, "Arm", d.Arm(1), api.OK)
	is(t, "Arm of one below 0", d.Arm(-1), api.ErrArg)
	is(t, "Arm in place of it", d.Arm(3), api.OK)
	is(t, "Sync", d.Sync("a"), api.OK)
	is(t, "Arm in place of it", d.Arm(2), api.OK)
	is(t, "FailSync, which is of another kind", d.FailSync(0), api.OK)
	is(t, "Sync", d.Sync("a"), api.OK)
	is(t, "a refused Arm leaves it", d.Arm(-1), api.ErrArg)
	is(t, "Sync", d.Sync("a"), api.ErrDead)
}

func TestF7FailSync(t *testing.T) {
	for n := 1; n < 6; n++ {
		d := made(t, 100, "a")
		is(t, "FailSync", d.FailSync(n), api.OK)
		for range n - 1 {
			is(t, "Append, which is no Sync", d.Append("a", "x"), api.OK)
			is(t, "Sync", d.Sync("a"), api.OK)
		}
		is(t, "Append", d.Append("a", "yz"), api.OK)
		is(t, "the Sync that fails", d.Sync("a"), api.ErrFileSync)
		if d.Pending("a") != 2 || d.Dead() {
			t.Errorf("pending: %d, dead: %v", d.Pending("a"), d.Dead())
		}
		is(t, "the Sync behind it", d.Sync("a"), api.OK)
		if d.Pending("a") != 0 {
			t.Errorf("pending: %d", d.Pending("a"))
		}
	}
}

func TestF7FailSyncInPlaceOfAnother(t *testing.T) {
	d := made(t, 100, "a")
	is(t, "FailSync", d.FailSync(1), api.OK)
	is(t, "FailSync of none", d.FailSync(0), api.OK)
	is(t, "Sync", d.Sync("a"), api.OK)
	is(t, "FailSync", d.FailSync(1), api.OK)
	is(t, "FailSync in place of it", d.FailSync(2), api.OK)
	is(t, "a refused one leaves it", d.FailSync(-1), api.ErrArg)
	is(t, "Arm, which is of another kind", d.Arm(0), api.OK)
	is(t, "Sync", d.Sync("a"), api.OK)
	is(t, "Sync", d.Sync("a"), api.ErrFileSync)
}

// TestF7SyncThatFailsCounts: it is an act for Arm.
func TestF7SyncThatFailsCounts(t *testing.T) {
	d := mixed(t)
	is(t, "FailSync", d.FailSync(1), api.OK)
	is(t, "Arm", d.Arm(2), api.OK)
	is(t, "Sync", d.Sync("a"), api.ErrFileSync)
	wantMixed(t, d)
	is(t, "Sync", d.Sync("a"), api.ErrDead)
	wantMixedDead(t, d)
}

// TestF7BothAtOnce: of a death and a failure that are due in one act, the death is told.
func TestF7BothAtOnce(t *testing.T) {
	d := mixed(t)
	is(t, "FailSync", d.FailSync(1), api.OK)
	is(t, "Arm", d.Arm(1), api.OK)
	is(t, "Sync", d.Sync("a"), api.ErrDead)
	wantMixedDead(t, d)
	is(t, "Sync behind the crash", d.Sync("a"), api.OK)
}

func TestF8Keeps(t *testing.T) {
	for n := range 4 {
		d := mixed(t)
		is(t, "Append", d.Append("b", "yz"), api.OK)
		l := []api.Keep{{Name: "b", Bytes: 1}, {Name: "a", Bytes: n}}
		given := slices.Clone(l)
		is(t, "Crash", d.Crash(l), api.OK)
		if !slices.Equal(l, given) {
			t.Error("the list was written into")
		}
		has(t, d, "a", "lastnew"[:4+n], 0)
		has(t, d, "b", "by", 0)
		lists(t, d, 20-6-n, "a", "b")
		wantFiles(t, d, api.File{Name: "a", Bytes: "lastnew"[:4+n]}, api.File{Name: "b", Bytes: "by"})
		is(t, "Append", d.Append("a", "!"), api.OK)
		has(t, d, "a", "lastnew"[:4+n]+"!", 1)
		is(t, "Crash", d.Crash(nil), api.OK)
		has(t, d, "a", "lastnew"[:4+n], 0)
	}
}

func TestF8Refuses(t *testing.T) {
	for _, c := range []struct {
		what string
		l    []api.Keep
		want api.Errno
	}{
		{"no name", []api.Keep{{Name: "a", Bytes: 1}, {Name: "", Bytes: 0}}, api.ErrFileName},
		{"no file", []api.Keep{{Name: "a", Bytes: 1}, {Name: "c", Bytes: -1}}, api.ErrFileNone},
		{"below 0", []api.Keep{{Name: "a", Bytes: -1}}, api.ErrFileKeep},
		{"the least number", []api.Keep{{Name: "a", Bytes: math.MinInt}}, api.ErrFileKeep},
		{"more than is pending", []api.Keep{{Name: "a", Bytes: 4}}, api.ErrFileKeep},
		{"the greatest number", []api.Keep{{Name: "a", Bytes: math.MaxInt}}, api.ErrFileKeep},
		{"where nothing is pending", []api.Keep{{Name: "b", Bytes: 1}}, api.ErrFileKeep},
		{"one twice", []api.Keep{{Name: "a", Bytes: 1}, {Name: "a", Bytes: 1}}, api.ErrFileKeep},
		{"one twice, of nothing", []api.Keep{{Name: "b"}, {Name: "a"}, {Name: "b"}}, api.ErrFileKeep},
		{"too many ahead of no name", []api.Keep{{Name: "a", Bytes: 4}, {Name: "A"}}, api.ErrFileKeep},
		{"one twice ahead of no file", []api.Keep{{Name: "a"}, {Name: "a"}, {Name: "c"}}, api.ErrFileKeep},
		{"no file ahead of no name", []api.Keep{{Name: "c"}, {Name: "A"}}, api.ErrFileNone},
	} {
		d := mixed(t)
		is(t, c.what, d.Crash(c.l), c.want)
		wantMixed(t, d)
		is(t, "Arm", d.Arm(1), api.OK)
		is(t, c.what+" of an armed disk", d.Crash(c.l), c.want)
		is(t, "Sync", d.Sync("a"), api.ErrDead)
		is(t, c.what+" of a dead disk", d.Crash(c.l), c.want)
		wantMixedDead(t, d)
	}
}

// TestF8Lives: behind a crash nothing is due any more, be it of a disk that lives or of a dead one.
func TestF8Lives(t *testing.T) {
	for _, dies := range []bool{false, true} {
		d := mixed(t)
		is(t, "FailSync", d.FailSync(2), api.OK)
		is(t, "Arm", d.Arm(2), api.OK)
		is(t, "Sync", d.Sync("b"), api.OK)
		if dies {
			is(t, "Sync", d.Sync("b"), api.ErrDead)
		}
		is(t, "Crash", d.Crash(nil), api.OK)
		if d.Dead() {
			t.Error("it is dead")
		}
		has(t, d, "a", "last", 0)
		for range 5 {
			is(t, "Sync behind the crash", d.Sync("a"), api.OK)
		}
	}
}

// TestF9Loaded: a disk that is loaded of Files reads as the first one does behind a crash of nothing.
func TestF9Loaded(t *testing.T) {
	d := mixed(t)
	is(t, "Create", d.Create("c"), api.OK)
	again, e := files.Load(20, d.Files())
	is(t, "Load", e, api.OK)
	is(t, "Crash", d.Crash(nil), api.OK)
	for _, x := range []*files.Disk{d, again} {
		has(t, x, "a", "last", 0)
		has(t, x, "b", "b", 0)
		has(t, x, "c", "", 0)
		lists(t, x, 15, "a", "b", "c")
	}
}

// TestApart: what is done to one disk is not seen on another.
func TestApart(t *testing.T) {
	d, other := mixed(t), mixed(t)
	is(t, "Arm", d.Arm(2), api.OK)
	is(t, "Append", d.Append("a", "x"), api.OK)
	is(t, "Remove", d.Remove("a"), api.ErrDead)
	wantMixed(t, other)
	is(t, "Append", other.Append("a", ""), api.OK)
	is(t, "Append", other.Append("a", ""), api.OK)
}
