package wal_test

import (
	"math/rand"
	"slices"
	"strings"
	"testing"

	"confluence/api"
	"confluence/code"
	"confluence/files"
	"confluence/wal"
)

// part is a segment of the model: its number, its records, and the place behind the last of them.
type part struct {
	k       int
	records []entry
	behind  int
}

// model does what the chapter says, word by word, with a disk of its own.
type model struct {
	d       *files.Disk
	parts   []part
	flushed int
	doubt   bool
}

func (m *model) last() *part { return &m.parts[len(m.parts)-1] }
func (m *model) first() int  { return m.parts[0].k * size }
func (m *model) end() int    { return m.last().behind }

// place is the one that a place stands for; itself, if for none.
func (m *model) place(lsn int) int {
	for i, p := range m.parts[:len(m.parts)-1] {
		if lsn == p.behind {
			lsn = m.parts[i+1].k * size
		}
	}
	return lsn
}

func (m *model) records() []entry {
	var out []entry
	for _, p := range m.parts {
		out = append(out, p.records...)
	}
	return out
}

// partOf has the right frames with which a segment's bytes begin, and whether it is full.
func partOf(k int, bytes string) (part, bool) {
	p := part{k: k, behind: k * size}
	for {
		rest := bytes[p.behind-k*size:]
		payload, n, e := code.Unframe(rest)
		if e != api.OK || payload == "" || p.behind+n > (k+1)*size {
			return p, len(bytes) == size && rest == strings.Repeat("\x00", len(rest))
		}
		p.records = append(p.records, entry{p.behind, payload})
		p.behind += n
	}
}

func (m *model) open() api.Errno {
	if m.d.Dead() {
		return api.ErrDead
	}
	var there []int
	for k := 1; k <= 40; k++ {
		if slices.Contains(m.d.List(), named(k)) {
			there = append(there, k)
		}
	}
	if len(there) == 0 {
		return api.ErrWalForm
	}
	m.parts, m.doubt = nil, false
	for k := there[0]; slices.Contains(there, k); k++ {
		n, _ := m.d.Size(named(k))
		bytes, _ := m.d.Read(named(k), 0, n)
		p, full := partOf(k, bytes)
		m.parts = append(m.parts, p)
		if !full {
			break
		}
	}
	for i := len(there) - 1; there[i] > m.last().k; i-- {
		if e := m.d.Remove(named(there[i])); e != api.OK {
			return e
		}
	}
	if n, _ := m.d.Size(named(m.last().k)); m.last().k*size+n > m.end() {
		if e := m.d.Truncate(named(m.last().k), m.end()-m.last().k*size); e != api.OK {
			return e
		}
	}
	for _, p := range m.parts {
		if m.d.Pending(named(p.k)) > 0 {
			if e := m.d.Sync(named(p.k)); e != api.OK {
				return e
			}
		}
	}
	m.flushed = m.end()
	return api.OK
}

func (m *model) refusal() api.Errno {
	if m.doubt && m.d.Dead() {
		return api.ErrDead
	}
	if m.doubt {
		return api.ErrWalDoubt
	}
	return api.OK
}

// try does acts one by one; the first that fails puts the model in doubt.
func (m *model) try(acts ...func() api.Errno) api.Errno {
	for _, act := range acts {
		if act() != api.OK {
			m.doubt = true
			return m.refusal()
		}
	}
	return api.OK
}

func (m *model) append(payload string) (int, api.Errno) {
	if payload == "" || len(payload) > 4000 {
		return 0, api.ErrWalLong
	}
	if e := m.refusal(); e != api.OK {
		return 0, e
	}
	k, frame := m.last().k, framed(payload)
	room := (k+1)*size - m.end()
	if len(frame) <= room {
		if e := m.try(func() api.Errno { return m.d.Append(named(k), frame) }); e != api.OK {
			return 0, e
		}
	} else {
		var acts []func() api.Errno
		if room > 0 {
			acts = append(acts, func() api.Errno { return m.d.Append(named(k), noughts(room)) })
		}
		acts = append(acts,
			func() api.Errno { return m.d.Sync(named(k)) },
			func() api.Errno { return m.d.Create(named(k + 1)) },
			func() api.Errno { return m.d.Append(named(k+1), frame) })
		if e := m.try(acts...); e != api.OK {
			return 0, e
		}
		m.parts = append(m.parts, part{k: k + 1, behind: (k + 1) * size})
		m.flushed = (k + 1) * size
	}
	at := m.end()
	m.last().records = append(m.last().records, entry{at, payload})
	m.last().behind += len(frame)
	return at, api.OK
}

func (m *model) flush() api.Errno {
	if e := m.refusal(); e != api.OK || m.flushed == m.end() {
		return e
	}
	e := m.try(func() api.Errno { return m.d.Sync(named(m.last().k)) })
	if e == api.OK {
		m.flushed = m.end()
	}
	return e
}

func (m *model) trim(lsn int) (int, api.Errno) {
	if e := m.refusal(); e != api.OK {
		return 0, e
	}
	n := 0
	for len(m.parts) > 1 && m.parts[0].k*size+size-1 < lsn {
		if m.d.Remove(named(m.parts[0].k)) != api.OK {
			return 0, api.ErrDead
		}
		m.parts = m.parts[1:]
		n++
	}
	return n, api.OK
}

func (m *model) read(lsn int) (string, int, api.Errno) {
	switch {
	case lsn < m.first():
		return "", 0, api.ErrWalGone
	case lsn >= m.end() || m.place(lsn) >= m.end():
		return "", 0, api.ErrWalEnd
	case m.d.Dead():
		return "", 0, api.ErrDead
	}
	for _, x := range m.records() {
		if x.at == m.place(lsn) {
			return x.payload, m.place(x.at + 7 + len(x.payload)), api.OK
		}
	}
	return "", 0, api.ErrWalPlace
}

func (m *model) scan(from int) []entry {
	if m.d.Dead() {
		return nil
	}
	var lasting []entry
	for _, x := range m.records() {
		if x.at < m.flushed {
			lasting = append(lasting, x)
		}
	}
	if from < m.first() {
		return lasting
	}
	for i, x := range lasting {
		if x.at == m.place(from) {
			return lasting[i:]
		}
	}
	return nil
}

// pair is a log and its model, which are asked the same.
type pair struct {
	t      *testing.T
	source *rand.Rand
	d      *files.Disk
	l      *wal.Log
	m      *model
	trail  []string
}

func (p *pair) note(s string) { p.trail = append(p.trail, s) }

func (p *pair) fail(what string, got, want any) {
	p.t.Helper()
	p.t.Fatalf("behind %q: %s: %v, want %v", p.trail[max(0, len(p.trail)-12):], what, got, want)
}

// sameDisks: the log did to its disk just what the model did to its own.
func (p *pair) sameDisks() {
	p.t.Helper()
	a, b := p.d, p.m.d
	if !slices.Equal(a.List(), b.List()) || a.Dead() != b.Dead() || a.Free() != b.Free() || !slices.Equal(a.Files(), b.Files()) {
		p.fail("the disk", sizes(a.Files()), sizes(b.Files()))
	}
	for _, name := range a.List() {
		if a.Pending(name) != b.Pending(name) {
			p.fail("pending of "+name, a.Pending(name), b.Pending(name))
		}
	}
	if !a.Dead() && !slices.Equal(bytesOf(p.t, a), bytesOf(p.t, b)) {
		p.fail("the bytes", sizes(bytesOf(p.t, a)), sizes(bytesOf(p.t, b)))
	}
}

func (p *pair) sameWords() {
	p.t.Helper()
	got := [3]int{p.l.First(), p.l.Flushed(), p.l.End()}
	if want := [3]int{p.m.first(), p.m.flushed, p.m.end()}; got != want {
		p.fail("First, Flushed, End", got, want)
	}
}

func (p *pair) sameRead(lsn int) {
	p.t.Helper()
	s, n, e := p.l.Read(lsn)
	if s2, n2, e2 := p.m.read(lsn); s != s2 || n != n2 || e != e2 {
		p.fail("Read", []any{lsn, short(s), n, e}, []any{lsn, short(s2), n2, e2})
	}
}

func (p *pair) sameScan(from int) {
	p.t.Helper()
	if got, want := scanned(p.l, from), p.m.scan(from); !slices.Equal(got, want) {
		p.fail("Scan", places(got), places(want))
	}
}

// somePlace is one of the log's, or near to one, or any.
func (p *pair) somePlace() int {
	r := p.source
	switch records := p.m.records(); {
	case r.Intn(4) == 0:
		return size * r.Intn(12)
	case r.Intn(4) == 0:
		return p.m.parts[r.Intn(len(p.m.parts))].behind
	case r.Intn(6) == 0 || len(records) == 0:
		return r.Intn(p.m.end()+2*size) - 10
	default:
		x := records[r.Intn(len(records))]
		return x.at + []int{0, 0, 0, 0, 1, 7, 7 + len(x.payload)}[r.Intn(7)]
	}
}

func (p *pair) somePayload() string {
	n := []int{1, 2, 20, 70, 900, 2000, 3999, 4000}[p.source.Intn(8)]
	room := size - (p.m.end() - p.m.last().k*size)
	if p.source.Intn(3) == 0 && room >= 8 && room <= 4007 {
		n = room - 7
	}
	if p.source.Intn(40) == 0 {
		n = []int{0, 4001}[p.source.Intn(2)]
	}
	b := make([]byte, n)
	for i := range b {
		b[i] = byte(p.source.Intn(3)) * 0xc7
	}
	return string(b)
}

// anew opens the log again, and lets the disks crash till that succeeds.
func (p *pair) anew() {
	p.t.Helper()
	for {
		l, e := wal.Open(p.d)
		want := p.m.open()
		if e != want || (l == nil) != (e != api.OK) {
			p.fail("Open", e, want)
		}
		p.sameDisks()
		if e == api.OK {
			p.l = l
			return
		}
		if e == api.ErrDead {
			p.crash()
		}
	}
}

// crash keeps some of what is pending.
func (p *pair) crash() {
	var keeps []api.Keep
	for _, name := range p.d.List() {
		n := p.d.Pending(name)
		keeps = append(keeps, api.Keep{Name: name, Bytes: []int{0, n, p.source.Intn(n + 1)}[p.source.Intn(3)]})
	}
	if p.d.Crash(keeps) != api.OK || p.m.d.Crash(keeps) != api.OK {
		p.fail("Crash", keeps, api.OK)
	}
}

func (p *pair) step() {
	p.t.Helper()
	switch n := p.source.Intn(100); {
	case n < 50:
		p.note("Append")
		s := p.somePayload()
		at, e := p.l.Append(s)
		if at2, e2 := p.m.append(s); at != at2 || e != e2 {
			p.fail("Append", []any{at, e}, []any{at2, e2})
		}
	case n < 70:
		p.note("Flush")
		e := p.l.Flush()
		if e2 := p.m.flush(); e != e2 {
			p.fail("Flush", e, e2)
		}
	case n < 76:
		p.note("Trim")
		lsn := p.somePlace()
		c, e := p.l.Trim(lsn)
		if c2, e2 := p.m.trim(lsn); c != c2 || e != e2 {
			p.fail("Trim", []any{lsn, c, e}, []any{c2, e2})
		}
	case n < 82:
		p.note("Arm")
		n := 1 + p.source.Intn(9)
		p.d.Arm(n)
		p.m.d.Arm(n)
	case n < 86:
		p.note("FailSync")
		n := 1 + p.source.Intn(5)
		p.d.FailSync(n)
		p.m.d.FailSync(n)
	case n < 90 && (p.m.doubt || p.d.Dead()):
		p.note("Open")
		p.anew()
	case n < 93:
		p.note("Crash, Open")
		p.crash()
		p.anew()
	default:
		p.note("Open")
		p.anew()
	}
}

// TestModel holds the log against the model over random calls, on disks that fill, fail and die.
func TestModel(t *testing.T) {
	source := rand.New(rand.NewSource(3))
	for range 150 {
		capacity := []int{9000, 20000, 45000, 200000}[source.Intn(4)]
		d, l := begun(t, capacity)
		m := &model{d: loaded(t, capacity)}
		wal.Create(m.d)
		m.open()
		p := &pair{t: t, source: source, d: d, l: l, m: m}
		for range 60 {
			p.step()
			p.sameDisks()
			p.sameWords()
			for range 6 {
				p.sameRead(p.somePlace())
			}
			p.sameScan(p.somePlace())
		}
	}
}

// someBytes has a segment's bytes: frames, junk, noughts, in some order, often just full.
func someBytes(source *rand.Rand) string {
	out := ""
	for range source.Intn(5) {
		switch source.Intn(8) {
		case 0:
			out += framed("")
		case 1:
			out += framed("cut")[:1+source.Intn(9)]
		case 2:
			out += "\x00"
		case 3:
			out += spoilt("spoilt")
		default:
			out += framed(sized(8 + source.Intn(4000)))
		}
	}
	switch source.Intn(6) {
	case 0:
		out += noughts(source.Intn(50))
	case 1, 2, 3, 4:
		if len(out) < size {
			out += noughts(size - len(out))
		}
	}
	if source.Intn(12) == 0 && len(out) > 0 {
		b := []byte(out)
		b[source.Intn(len(b))] ^= 1 << source.Intn(8)
		out = string(b)
	}
	return out
}

// TestAnyBytes holds Open, and what is read then, against the model, of any bytes in the segments; a second Open finds the same, with no act.
func TestAnyBytes(t *testing.T) {
	source := rand.New(rand.NewSource(7))
	for range 2000 {
		var l []api.File
		for k := 1 + source.Intn(3); k < 8; k++ {
			if source.Intn(9) > 0 {
				l = append(l, segment(k, someBytes(source)))
			}
		}
		p := &pair{t: t, source: source, d: loaded(t, 300000, l...), m: &model{d: loaded(t, 300000, l...)}}
		if len(l) == 0 {
			opensNot(t, p.d, api.ErrWalForm)
			continue
		}
		p.anew()
		p.sameWords()
		p.sameScan(0)
		for range 10 {
			p.sameRead(p.somePlace())
			p.sameScan(p.somePlace())
		}
		before := scanned(p.l, 0)
		costs(t, p.d, 0, "a second Open", func() {
			again := opened(t, p.d)
			stands(t, again, p.m.first(), p.m.end(), p.m.end())
			if !slices.Equal(scanned(again, 0), before) {
				t.Error("a second Open finds other records")
			}
		})
	}
}
