package files_test

import (
	"math/rand"
	"slices"
	"strings"
	"testing"

	"confluence/api"
	"confluence/files"
)

// modelFile is what a file is said to be: what lasts, what is pending.
type modelFile struct {
	name, lasts, pending string
}

// model is the chapter told over again, as plainly as may be: a list of files, asked from its beginning on.
type model struct {
	capacity     int
	list         []modelFile
	dead         bool
	acts, syncs  int
	dieAt, fails int
}

func (m *model) at(name string) int {
	return slices.IndexFunc(m.list, func(f modelFile) bool { return f.name == name })
}

func (m *model) free() int {
	n := m.capacity
	for _, f := range m.list {
		n -= len(f.lasts) + len(f.pending)
	}
	return n
}

func modelName(s string) bool {
	return s != "" && len(s) <= 40 && strings.Trim(s, "abcdefghijklmnopqrstuvwxyz0123456789._-") == ""
}

// refused is what is asked ahead of each act: of a file that must be there, if there is true.
func (m *model) refused(name string, there bool) api.Errno {
	switch {
	case !modelName(name):
		return api.ErrFileName
	case m.dead:
		return api.ErrDead
	case there && m.at(name) < 0:
		return api.ErrFileNone
	case !there && m.at(name) >= 0:
		return api.ErrFileThere
	}
	return api.OK
}

func (m *model) dies() bool {
	m.acts++
	m.dead = m.acts == m.dieAt
	return m.dead
}

func (m *model) create(name string) api.Errno {
	if e := m.refused(name, false); e != api.OK {
		return e
	}
	if m.dies() {
		return api.ErrDead
	}
	m.list = append(m.list, modelFile{name: name})
	return api.OK
}

func (m *model) append(name, s string) api.Errno {
	if e := m.refused(name, true); e != api.OK {
		return e
	}
	if len(s) > m.free() {
		return api.ErrFileFull
	}
	if m.dies() {
		return api.ErrDead
	}
	m.list[m.at(name)].pending += s
	return api.OK
}

func (m *model) sync(name string) api.Errno {
	if e := m.refused(name, true); e != api.OK {
		return e
	}
	if m.dies() {
		return api.ErrDead
	}
	m.syncs++
	if m.syncs == m.fails {
		return api.ErrFileSync
	}
	f := &m.list[m.at(name)]
	f.lasts, f.pending = f.lasts+f.pending, ""
	return api.OK
}

func (m *model) truncate(name string, n int) api.Errno {
	if e := m.refused(name, true); e != api.OK {
		return e
	}
	f := &m.list[m.at(name)]
	if n < 0 || n > len(f.lasts)+len(f.pending) {
		return api.ErrFileRange
	}
	if m.dies() {
		return api.ErrDead
	}
	if n < len(f.lasts) {
		f.lasts, f.pending = f.lasts[:n], ""
	} else {
		f.pending = f.pending[:n-len(f.lasts)]
	}
	return api.OK
}

func (m *model) remove(name string) api.Errno {
	if e := m.refused(name, true); e != api.OK {
		return e
	}
	if m.dies() {
		return api.ErrDead
	}
	i := m.at(name)
	m.list = slices.Delete(m.list, i, i+1)
	return api.OK
}

func (m *model) rename(from, to string) api.Errno {
	if !modelName(to) {
		return api.ErrFileName
	}
	if e := m.refused(from, true); e != api.OK {
		return e
	}
	if m.dies() {
		return api.ErrDead
	}
	if i := m.at(to); from != to && i >= 0 {
		m.list = slices.Delete(m.list, i, i+1)
	}
	m.list[m.at(from)].name = to
	return api.OK
}

func (m *model) arm(n int) api.Errno {
	switch {
	case n < 0:
		return api.ErrArg
	case m.dead:
		return api.ErrDead
	}
	m.acts, m.dieAt = 0, n
	return api.OK
}

func (m *model) failSync(n int) api.Errno {
	switch {
	case n < 0:
		return api.ErrArg
	case m.dead:
		return api.ErrDead
	}
	m.syncs, m.fails = 0, n
	return api.OK
}

func (m *model) crash(l []api.Keep) api.Errno {
	for i, k := range l {
		at := m.at(k.Name)
		switch {
		case !modelName(k.Name):
			return api.ErrFileName
		case at < 0:
			return api.ErrFileNone
		case k.Bytes < 0 || k.Bytes > len(m.list[at].pending):
			return api.ErrFileKeep
		case slices.ContainsFunc(l[:i], func(o api.Keep) bool { return o.Name == k.Name }):
			return api.ErrFileKeep
		}
	}
	for _, k := range l {
		f := &m.list[m.at(k.Name)]
		f.lasts += f.pending[:k.Bytes]
	}
	for i := range m.list {
		m.list[i].pending = ""
	}
	m.dead, m.dieAt, m.fails = false, 0, 0
	return api.OK
}

// walk has a disk and its model, and draws what is done to both.
type walk struct {
	*rand.Rand
	d *files.Disk
	m *model
}

func (w *walk) name() string {
	return []string{"a", "b", "c", "d", "wal.000001", "A", ""}[min(w.Intn(30), w.Intn(30))%7]
}

func (w *walk) keeps() []api.Keep {
	var l []api.Keep
	for _, i := range w.Perm(len(w.m.list)) {
		if f := w.m.list[i]; w.Intn(2) == 0 {
			l = append(l, api.Keep{Name: f.name, Bytes: w.Intn(len(f.pending) + 1)})
		}
	}
	switch w.Intn(8) {
	case 0:
		l = append(l, api.Keep{Name: w.name(), Bytes: w.Intn(4) - 1})
	case 1:
		l = append(l, l...)
	}
	return l
}

// step does one thing to both: its name, and what both answered.
func (w *walk) step() (string, api.Errno, api.Errno) {
	name, to, n := w.name(), w.name(), w.Intn(12)-1
	s := "0123456789ab"[:w.Intn(7)]
	switch w.Intn(16) {
	case 0, 1:
		return "Create " + name, w.d.Create(name), w.m.create(name)
	case 2, 3, 4, 5:
		return "Append " + name + " " + s, w.d.Append(name, s), w.m.append(name, s)
	case 6, 7, 8:
		return "Sync " + name, w.d.Sync(name), w.m.sync(name)
	case 9:
		return "Truncate " + name, w.d.Truncate(name, n), w.m.truncate(name, n)
	case 10:
		return "Remove " + name, w.d.Remove(name), w.m.remove(name)
	case 11:
		return "Rename " + name + " " + to, w.d.Rename(name, to), w.m.rename(name, to)
	case 12:
		return "Arm", w.d.Arm(n), w.m.arm(n)
	case 13:
		return "FailSync", w.d.FailSync(n), w.m.failSync(n)
	default:
		if !w.m.dead && w.Intn(4) != 0 {
			return "nothing", api.OK, api.OK
		}
		l := w.keeps()
		return "Crash", w.d.Crash(l), w.m.crash(l)
	}
}

// hold holds all that can be asked of a disk against its model.
func (w *walk) hold(t *testing.T) {
	t.Helper()
	list := slices.Clone(w.m.list)
	slices.SortFunc(list, func(a, b modelFile) int { return strings.Compare(a.name, b.name) })
	names, lasting := []string{}, []api.File{}
	for _, f := range list {
		names = append(names, f.name)
		lasting = append(lasting, api.File{Name: f.name, Bytes: f.lasts})
		all := f.lasts + f.pending
		n, e := w.d.Size(f.name)
		s, g := w.d.Read(f.name, 0, len(all))
		switch {
		case w.d.Pending(f.name) != len(f.pending):
			t.Fatalf("Pending of %s: %d, want %d", f.name, w.d.Pending(f.name), len(f.pending))
		case w.m.dead && (n != 0 || s != "" || e != api.ErrDead || g != api.ErrDead):
			t.Fatalf("%s of a dead disk: %d, %q, %d, %d", f.name, n, s, e, g)
		case !w.m.dead && (n != len(all) || s != all || e != api.OK || g != api.OK):
			t.Fatalf("%s: %d, %q, %d, %d, want %q", f.name, n, s, e, g, all)
		}
	}
	wantFiles(t, w.d, lasting...)
	lists(t, w.d, w.m.free(), names...)
	if w.d.Dead() != w.m.dead {
		t.Fatalf("Dead: %v", w.d.Dead())
	}
	if w.d.Free() < 0 || w.d.Free() > w.m.capacity {
		t.Fatalf("Free: %d of %d", w.d.Free(), w.m.capacity)
	}
}

// TestF9AnyCalls: whatever is called, a disk does what the chapter says, and nothing else.
func TestF9AnyCalls(t *testing.T) {
	for seed := range int64(300) {
		source := rand.New(rand.NewSource(seed))
		capacity := 1 + source.Intn(60)
		w := &walk{source, made(t, capacity), &model{capacity: capacity}}
		var past []string
		for range 300 {
			what, got, want := w.step()
			past = append(past, what)
			if got != want {
				t.Fatalf("%d: %s: %d, want %d, behind %q", seed, what, got, want, past)
			}
			w.hold(t)
			if t.Failed() {
				t.Fatalf("%d: behind %q", seed, past)
			}
		}
	}
}

// TestF9WhatLasts: behind a crash each file is a beginning of what it was, and has at least what lasted.
func TestF9WhatLasts(t *testing.T) {
	for seed := range int64(200) {
		source := rand.New(rand.NewSource(seed))
		w := &walk{source, made(t, 60), &model{capacity: 60}}
		for range 60 {
			w.step()
			lasting := w.d.Files()
			var was []string
			for _, f := range lasting {
				s, _ := w.d.Read(f.Name, 0, len(f.Bytes)+w.d.Pending(f.Name))
				was = append(was, s)
			}
			if w.d.Dead() || w.Intn(4) != 0 {
				continue
			}
			l := w.keeps()
			if w.d.Crash(l) != w.m.crash(l) {
				t.Fatal("the crash is answered otherwise")
			}
			for i, f := range w.d.Files() {
				if f.Name != lasting[i].Name || !strings.HasPrefix(f.Bytes, lasting[i].Bytes) || !strings.HasPrefix(was[i], f.Bytes) {
					t.Fatalf("of %q, of which %q lasted, there is %q", was[i], lasting[i].Bytes, f.Bytes)
				}
			}
		}
	}
}
