package tree_test

import (
	"iter"
	"math"
	"slices"
	"strconv"
	"testing"

	"confluence/tree"
)

// entry is a key with its value.
type entry struct {
	key   string
	value int
}

// plain is what a tree must tell of: a list by rising keys, each of them once.
type plain []entry

// below is how many keys are below one, by going over all of them.
func (p plain) below(key string) int {
	n := 0
	for _, e := range p {
		if e.key < key {
			n++
		}
	}
	return n
}

func (p plain) get(key string) (int, bool) {
	for _, e := range p {
		if e.key == key {
			return e.value, true
		}
	}
	return 0, false
}

func (p *plain) put(key string, v int) (int, bool) {
	old, is := p.delete(key)
	*p = slices.Insert(*p, p.below(key), entry{key, v})
	return old, is
}

func (p *plain) delete(key string) (int, bool) {
	old, is := p.get(key)
	if is {
		at := p.below(key)
		*p = slices.Delete(*p, at, at+1)
	}
	return old, is
}

// between is the keys that are not below from, and below to, or up to the end.
func (p plain) between(from, to string) []entry {
	var l []entry
	for _, e := range p {
		if e.key >= from && (to == "" || e.key < to) {
			l = append(l, e)
		}
	}
	return l
}

func turned(l []entry) []entry {
	l = slices.Clone(l)
	slices.Reverse(l)
	return l
}

// entries goes over an iterator to its end.
func entries(s iter.Seq2[string, int]) []entry {
	var l []entry
	for k, v := range s {
		l = append(l, entry{k, v})
	}
	return l
}

func list(t *testing.T, what string, got, want []entry) {
	t.Helper()
	if !slices.Equal(got, want) {
		t.Fatalf("%s: %v, want %v", what, got, want)
	}
}

func value(t *testing.T, what string, got int, is bool, want int, as bool) {
	t.Helper()
	if got != want || is != as {
		t.Fatalf("%s: %d, %v, want %d, %v", what, got, is, want, as)
	}
}

func number(t *testing.T, what string, got, want int) {
	t.Helper()
	if got != want {
		t.Fatalf("%s: %d, want %d", what, got, want)
	}
}

// held holds all that a tree tells against a list.
func held(t *testing.T, what string, x *tree.Tree[int], p plain) {
	t.Helper()
	number(t, what+": Len", x.Len(), len(p))
	list(t, what+": Range", entries(x.Range("", "")), p)
	list(t, what+": Back", entries(x.Back("", "")), turned(p))
	for i, e := range p {
		v, is := x.Get(e.key)
		value(t, what+": Get "+e.key, v, is, e.value, true)
		number(t, what+": Rank "+e.key, x.Rank(e.key), i)
		k, v, is := x.At(i)
		if k != e.key {
			t.Fatalf("%s: At(%d): %q, want %q", what, i, k, e.key)
		}
		value(t, what+": At", v, is, e.value, true)
	}
	for _, k := range []int{-1, len(p), len(p) + 1, math.MinInt, math.MaxInt, math.MinInt32, 1 << 32} {
		nothingAt(t, what, x, k)
	}
	floors(t, what, x)
}

func nothingAt(t *testing.T, what string, x *tree.Tree[int], k int) {
	t.Helper()
	if key, v, is := x.At(k); key != "" || v != 0 || is {
		t.Fatalf("%s: At(%d): %q, %d, %v", what, k, key, v, is)
	}
}

// floors holds the height against how many keys there are.
func floors(t *testing.T, what string, x *tree.Tree[int]) {
	t.Helper()
	h, n := x.Height(), x.Len()
	if n == 0 || h <= 0 || h > 9 {
		if n != 0 || h != 0 {
			t.Fatalf("%s: %d keys on %d floors", what, n, h)
		}
		return
	}
	fewest, most := 2, 16
	for range h - 1 {
		fewest, most = 8*fewest, 16*most
	}
	if n < fewest-1 || n > most-1 {
		t.Fatalf("%s: %d keys on %d floors", what, n, h)
	}
}

// name is the i-th of many keys; between each and the next there is room for others.
func name(i int) string { return strconv.Itoa(200000 + 2*i) }

// gap is a key that is none, just behind the i-th.
func gap(i int) string { return strconv.Itoa(200001 + 2*i) }

// grown is a tree of n keys, put in the order that an order says, and the list of them. A key's value is its number and one more, so that none is zero.
func grown(n int, order func(i int) int) (*tree.Tree[int], plain) {
	x := tree.New[int]()
	p := make(plain, n)
	for i := range n {
		j := order(i)
		x.Put(name(j), j+1)
		p[j] = entry{name(j), j + 1}
	}
	return x, p
}

// orders are ways to go over n numbers, each once.
func orders(n int) map[string]func(int) int {
	return map[string]func(int) int{
		"rising":  func(i int) int { return i },
		"falling": func(i int) int { return n - 1 - i },
		"from the ends": func(i int) int {
			if i%2 == 0 {
				return i / 2
			}
			return n - 1 - i/2
		},
		"from the middle": func(i int) int {
			i = n - 1 - i
			if i%2 == 0 {
				return i / 2
			}
			return n - 1 - i/2
		},
		"strewn": func(i int) int { return i * step(n) % n },
	}
}

// step has no part in common with n, so that going on by it comes to each number.
func step(n int) int {
	for s := 2*n/5 + 1; ; s++ {
		a, b := s, n
		for b != 0 {
			a, b = b, a%b
		}
		if a == 1 {
			return s
		}
	}
}
