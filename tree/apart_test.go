package tree_test

import (
	"slices"
	"strings"
	"sync"
	"testing"

	"confluence/tree"
)

// TestE6TwoTrees: the same keys with other values, put and taken away in turn.
func TestE6TwoTrees(t *testing.T) {
	x, y := tree.New[int](), tree.New[int]()
	var p, q plain
	for i := range 300 {
		a, b := name(i*7%300), name(i*11%200)
		x.Put(a, i+1)
		p.put(a, i+1)
		y.Put(b, -i-1)
		q.put(b, -i-1)
		if i%3 == 0 {
			x.Delete(b)
			p.delete(b)
		}
		if i%20 == 0 {
			held(t, "the one", x, p)
			held(t, "the other", y, q)
		}
	}
	for i := range 300 {
		x.Delete(name(i))
	}
	nothing(t, "the one", x)
	held(t, "the other", y, q)
}

// TestE6NewOnes: each is its own from the beginning on.
func TestE6NewOnes(t *testing.T) {
	a, b := tree.New[int](), tree.New[int]()
	if a == b {
		t.Fatal("two trees are one")
	}
	over := b.Range("", "")
	a.Put("a", 1)
	nothing(t, "the other", b)
	list(t, "its iterator", entries(over), nil)
}

// TestAnyValues: of kinds that cannot be compared, that have no bytes, that are nothing.
func TestAnyValues(t *testing.T) {
	f := tree.New[func() int]()
	l := tree.New[[]int]()
	s := tree.New[struct{}]()
	e := tree.New[error]()
	g := tree.New[[40]string]()
	for i := range 50 {
		f.Put(name(i), func() int { return i })
		l.Put(name(i), []int{i, i})
		s.Put(name(i), struct{}{})
		e.Put(name(i), nil)
		g.Put(name(i), [40]string{39: name(i)})
	}
	for i := range 50 {
		if v, is := f.Get(name(i)); !is || v() != i {
			t.Errorf("a function: %v", is)
		}
		if v, is := l.Delete(name(i)); !is || !slices.Equal(v, []int{i, i}) {
			t.Errorf("a list: %v, %v", v, is)
		}
		if _, is := s.Get(name(i)); !is {
			t.Error("what has no bytes")
		}
		if v, is := e.Put(name(i), nil); !is || v != nil {
			t.Errorf("nothing: %v, %v", v, is)
		}
		if _, v, is := g.At(i); !is || v[39] != name(i) {
			t.Errorf("an array: %v, %v", v, is)
		}
	}
	if v, is := f.Get("none"); is || v != nil {
		t.Error("zero of a function")
	}
	if v, is := l.Get(name(0)); is || v != nil {
		t.Error("zero of a list")
	}
	if _, v, is := g.At(50); is || v != [40]string{} {
		t.Error("zero of an array")
	}
}

// TestValuesAreKeptAsTheyAre: what a value points to is neither copied nor written.
func TestValuesAreKeptAsTheyAre(t *testing.T) {
	x := tree.New[*int]()
	var own []*int
	for i := range 200 {
		own = append(own, &[]int{i}[0])
		x.Put(name(i), own[i])
	}
	for i := range 200 {
		if v, _ := x.Get(name(i)); v != own[i] || *v != i {
			t.Fatalf("another value under %s", name(i))
		}
	}
}

// TestKeysAreTheirBytes: a key does not hang on where its bytes came from.
func TestKeysAreTheirBytes(t *testing.T) {
	x := tree.New[int]()
	bytes := []byte("some key")
	x.Put(string(bytes), 1)
	copy(bytes, "xxxxxxxx")
	v, is := x.Get(strings.Join([]string{"some", "key"}, " "))
	value(t, "Get", v, is, 1, true)
	v, is = x.Get(string(bytes))
	value(t, "Get", v, is, 0, false)
}

// TestReadSideBySide: calls that read write nothing, so that several goroutines may make them at a time.
func TestReadSideBySide(t *testing.T) {
	x, p := grown(400, func(i int) int { return i })
	over, back := x.Range(name(20), name(390)), x.Back(name(20), name(390))
	var all sync.WaitGroup
	for range 8 {
		all.Add(1)
		go func() {
			defer all.Done()
			for i, e := range p {
				v, is := x.Get(e.key)
				k, w, as := x.At(i)
				if v != e.value || !is || x.Rank(e.key) != i || k != e.key || w != v || !as {
					t.Errorf("key %d", i)
				}
			}
			if !slices.Equal(entries(over), p[20:390]) || !slices.Equal(entries(back), turned(p[20:390])) || x.Len() != 400 || x.Height() < 2 {
				t.Error("what is there")
			}
		}()
	}
	all.Wait()
}

// TestWriteSideBySide: trees of which each has its goroutine.
func TestWriteSideBySide(t *testing.T) {
	var all sync.WaitGroup
	for g := range 8 {
		all.Add(1)
		go func() {
			defer all.Done()
			x := tree.New[int]()
			for i := range 500 {
				x.Put(name(i*(2*g+1)%500), i)
			}
			for i := range 250 {
				x.Delete(name(i * 2))
			}
			if x.Len() != len(entries(x.Range("", ""))) {
				t.Errorf("tree %d", g)
			}
		}()
	}
	all.Wait()
}
