package tree_test

import (
	"math"
	"testing"

	"confluence/tree"
)

// TestExamples: the chapter's.
func TestExamples(t *testing.T) {
	x := tree.New[int]()
	for _, e := range []entry{{"b", 2}, {"a", 1}, {"", 0}} {
		v, is := x.Put(e.key, e.value)
		value(t, "Put "+e.key, v, is, 0, false)
	}
	v, is := x.Put("b", 5)
	value(t, "Put b again", v, is, 2, true)
	list(t, "Range", entries(x.Range("a", "")), []entry{{"a", 1}, {"b", 5}})
	list(t, "Back", entries(x.Back("", "b")), []entry{{"a", 1}, {"", 0}})
	number(t, "Rank", x.Rank("aa"), 2)
	k, v, is := x.At(2)
	if k != "b" {
		t.Errorf("At(2): %q", k)
	}
	value(t, "At(2)", v, is, 5, true)
	nothingAt(t, "three keys", x, 3)
	number(t, "Height", x.Height(), 1)
	for _, order := range orders(16) {
		many, _ := grown(16, order)
		number(t, "Height of 16", many.Height(), 2)
	}
}

// nothing holds all that a tree tells against that it has no keys.
func nothing(t *testing.T, what string, x *tree.Tree[int]) {
	t.Helper()
	held(t, what, x, nil)
	number(t, what+": Height", x.Height(), 0)
	nothingAt(t, what, x, 0)
	for _, key := range []string{"", "a", "\x00", "\xff"} {
		v, is := x.Get(key)
		value(t, what+": Get", v, is, 0, false)
		v, is = x.Delete(key)
		value(t, what+": Delete", v, is, 0, false)
		number(t, what+": Rank", x.Rank(key), 0)
		for _, to := range []string{"", "a", "\x00", "\xff"} {
			list(t, what+": Range", entries(x.Range(key, to)), nil)
			list(t, what+": Back", entries(x.Back(key, to)), nil)
		}
	}
}

// TestE1New: a tree without keys, from the beginning on, and again when all are taken away.
func TestE1New(t *testing.T) {
	x := tree.New[int]()
	if x == nil {
		t.Fatal("there is no tree")
	}
	nothing(t, "a new one", x)
	x.Put("a", 1)
	x.Delete("a")
	nothing(t, "one that was emptied", x)
	for _, n := range []int{2, 15, 16, 17, 300, 2000} {
		for what, order := range orders(n) {
			x, _ := grown(n, func(i int) int { return i })
			for i := range n {
				number(t, what+": Len", x.Len(), n-i)
				v, is := x.Delete(name(order(i)))
				value(t, what+": Delete", v, is, order(i)+1, true)
			}
			nothing(t, what+": a great one that was emptied", x)
			v, is := x.Put("", 7)
			value(t, what+": Put", v, is, 0, false)
			held(t, what+": and filled again", x, plain{{"", 7}})
		}
	}
}

// TestE1Len: one more with each key that was not there, one less with each that was, and else the same.
func TestE1Len(t *testing.T) {
	x := tree.New[int]()
	for i := range 400 {
		x.Put(name(i), i)
		number(t, "behind a Put", x.Len(), i+1)
		x.Put(name(i/2), -i)
		number(t, "behind a Put of what was there", x.Len(), i+1)
		x.Delete(gap(i / 3))
		number(t, "behind a Delete of what was not there", x.Len(), i+1)
	}
	for i := range 400 {
		x.Delete(name(i))
		number(t, "behind a Delete", x.Len(), 399-i)
		x.Delete(name(i))
		number(t, "behind a Delete of what was there", x.Len(), 399-i)
	}
}

// TestE2OneKey: what each call tells of one key, in turn.
func TestE2OneKey(t *testing.T) {
	for _, key := range []string{"", "a", "\x00", "\xff\xfe", "é", "a longer one, with a blank"} {
		x := tree.New[int]()
		steps := []struct {
			what string
			call func() (int, bool)
			old  int
			is   bool
		}{
			{"Get", func() (int, bool) { return x.Get(key) }, 0, false},
			{"Delete", func() (int, bool) { return x.Delete(key) }, 0, false},
			{"Put", func() (int, bool) { return x.Put(key, 3) }, 0, false},
			{"Get", func() (int, bool) { return x.Get(key) }, 3, true},
			{"Put", func() (int, bool) { return x.Put(key, 4) }, 3, true},
			{"Put", func() (int, bool) { return x.Put(key, 4) }, 4, true},
			{"Put of zero", func() (int, bool) { return x.Put(key, 0) }, 4, true},
			{"Get", func() (int, bool) { return x.Get(key) }, 0, true},
			{"Delete", func() (int, bool) { return x.Delete(key) }, 0, true},
			{"Delete", func() (int, bool) { return x.Delete(key) }, 0, false},
			{"Get", func() (int, bool) { return x.Get(key) }, 0, false},
			{"Put", func() (int, bool) { return x.Put(key, 5) }, 0, false},
			{"Delete", func() (int, bool) { return x.Delete(key) }, 5, true},
		}
		for i, s := range steps {
			v, is := s.call()
			if v != s.old || is != s.is {
				t.Errorf("%q, step %d, %s: %d, %v, want %d, %v", key, i, s.what, v, is, s.old, s.is)
			}
		}
	}
}

// odd are keys by rising bytes: the empty one, such as begin with another, zero bytes, bytes that are no text.
var odd = []string{"", "\x00", "\x00\x00", "\x00a", "A", "a", "a\x00", "a\x00b", "aa", "ab", "a\x7f", "a\x80", "a\xc3\xa9", "a\xff", "b", "z", "\x7f", "\x80", "\xc3", "\xc3\xa9", "\xe2\x82\xac", "\xf0\x9f\x98\x80", "\xff", "\xff\x00", "\xff\xff"}

// TestE2OrderOfKeys: keys stand by their bytes, however they were put.
func TestE2OrderOfKeys(t *testing.T) {
	n := len(odd)
	for what, order := range orders(n) {
		x, p := tree.New[int](), make(plain, n)
		for i := range n {
			x.Put(odd[order(i)], order(i)+1)
		}
		for i, key := range odd {
			p[i] = entry{key, i + 1}
		}
		held(t, what, x, p)
		for _, from := range odd {
			for _, to := range odd {
				list(t, what+": Range", entries(x.Range(from, to)), p.between(from, to))
				list(t, what+": Back", entries(x.Back(from, to)), turned(p.between(from, to)))
			}
		}
	}
}

// TestE2NoKeyForAnother: what begins with a key, or what a key begins with, is not that key.
func TestE2NoKeyForAnother(t *testing.T) {
	for _, key := range odd {
		x := tree.New[int]()
		x.Put(key, 9)
		for _, other := range odd {
			if other == key {
				continue
			}
			v, is := x.Get(other)
			value(t, "Get", v, is, 0, false)
			v, is = x.Delete(other)
			value(t, "Delete", v, is, 0, false)
		}
		held(t, key, x, plain{{key, 9}})
	}
}

// TestE2PutChangesNoOther: of each key of a great tree.
func TestE2PutChangesNoOther(t *testing.T) {
	x, p := grown(300, func(i int) int { return i })
	was := x.Height()
	for i := range p {
		v, is := x.Put(p[i].key, -i)
		value(t, "Put", v, is, p[i].value, true)
		p[i].value = -i
		if i%25 == 0 {
			held(t, "behind a Put", x, p)
		}
	}
	held(t, "at the end", x, p)
	number(t, "Height", x.Height(), was)
}

// TestE2DeleteEach: each key of trees of several floors alone, those of inner nodes among them, in trees that stand differently.
func TestE2DeleteEach(t *testing.T) {
	for _, n := range []int{15, 16, 17, 23, 24, 130, 160} {
		for what, order := range orders(n) {
			for i := range n {
				x, p := grown(n, order)
				v, is := x.Delete(name(i))
				value(t, what+": Delete", v, is, i+1, true)
				p.delete(name(i))
				held(t, what+": behind a Delete", x, p)
				v, is = x.Delete(name(i))
				value(t, what+": Delete again", v, is, 0, false)
				v, is = x.Put(name(i), -5)
				value(t, what+": Put again", v, is, 0, false)
				p.put(name(i), -5)
				held(t, what+": behind a Put", x, p)
			}
		}
	}
}

// TestE2DeleteOfNone: what is not there is not taken away, whatever floor it would stand on, and nothing is changed.
func TestE2DeleteOfNone(t *testing.T) {
	for what, order := range orders(200) {
		x, p := grown(200, order)
		was := x.Height()
		for i := -1; i < 200; i++ {
			v, is := x.Delete(gap(i))
			value(t, what+": Delete", v, is, 0, false)
		}
		held(t, what, x, p)
		number(t, what+": Height", x.Height(), was)
	}
}

// TestE4At: each number of trees of all sizes up to one, and numbers that are none.
func TestE4At(t *testing.T) {
	for n := range 300 {
		x, p := grown(n, func(i int) int { return i })
		for k, e := range p {
			key, v, is := x.At(k)
			if key != e.key || v != e.value || !is {
				t.Fatalf("%d keys: At(%d): %q, %d, %v", n, k, key, v, is)
			}
		}
		for _, k := range []int{n, n + 1, n + 15, 2*n + 1, -1, -n - 1, math.MaxInt, math.MaxInt - n, math.MinInt, math.MinInt + n, 1 << 31, 1 << 32, 1<<32 + n/2, -1 << 32} {
			nothingAt(t, "a number that is none", x, k)
		}
	}
}

// TestE4Rank: of keys that are there, and of those beside each of them.
func TestE4Rank(t *testing.T) {
	for _, n := range []int{0, 1, 2, 14, 15, 16, 17, 100, 500} {
		for what, order := range orders(n) {
			x, _ := grown(n, order)
			for i := range n {
				number(t, what+": a key", x.Rank(name(i)), i)
				number(t, what+": just behind a key", x.Rank(name(i)+"\x00"), i+1)
				number(t, what+": between keys", x.Rank(gap(i)), i+1)
				number(t, what+": what a key begins with", x.Rank(name(i)[:5]), i/5*5)
			}
			number(t, what+": the empty one", x.Rank(""), 0)
			number(t, what+": ahead of all", x.Rank(gap(-1)), 0)
			number(t, what+": behind all", x.Rank("\xff"), n)
		}
	}
	x, _ := grown(20, func(i int) int { return i })
	x.Put("", 0)
	number(t, "the empty one, which is there", x.Rank(""), 0)
	number(t, "just behind it", x.Rank("\x00"), 1)
	number(t, "the first of the others", x.Rank(name(0)), 1)
}

// TestE4RankAndAt: each turns the other round.
func TestE4RankAndAt(t *testing.T) {
	for what, order := range orders(700) {
		x, _ := grown(700, order)
		for k := range 700 {
			key, _, is := x.At(k)
			if !is || x.Rank(key) != k {
				t.Fatalf("%s: At(%d): %q, whose rank is %d", what, k, key, x.Rank(key))
			}
		}
	}
}
