package tree

import (
	"math/rand"
	"strconv"
	"testing"
)

// right holds a tree's nodes against the words of the chapter: how many keys each has, one child more, all leaves on one floor, keys that rise. What a node no longer has must not stand in its lists' spare room.
func right(t *testing.T, what string, x *Tree[*int]) {
	t.Helper()
	if x.root == nil {
		return
	}
	if len(x.root.items) == 0 {
		t.Fatalf("%s: a root without keys", what)
	}
	h, n, last := x.Height(), 0, ""
	var look func(n *node[*int], floor int) int
	look = func(at *node[*int], floor int) int {
		if k := len(at.items); k > 15 || k < 7 && at != x.root {
			t.Fatalf("%s: a node of %d keys", what, k)
		}
		if at.leaf() != (floor == h) {
			t.Fatalf("%s: a leaf on floor %d of %d", what, floor, h)
		}
		if !at.leaf() && len(at.kids) != len(at.items)+1 {
			t.Fatalf("%s: %d keys and %d kids", what, len(at.items), len(at.kids))
		}
		size := len(at.items)
		for i := range len(at.items) + 1 {
			if !at.leaf() {
				size += look(at.kids[i], floor+1)
			}
			if i < len(at.items) {
				if at.items[i].key <= last && n > 0 {
					t.Fatalf("%s: %q behind %q", what, at.items[i].key, last)
				}
				last = at.items[i].key
				n++
			}
		}
		if at.size != size {
			t.Fatalf("%s: a size of %d, want %d", what, at.size, size)
		}
		spare(t, what, at)
		return size
	}
	look(x.root, 1)
}

func spare(t *testing.T, what string, at *node[*int]) {
	t.Helper()
	for _, it := range at.items[len(at.items):cap(at.items)] {
		if it.key != "" || it.value != nil {
			t.Fatalf("%s: %q is kept in spare room", what, it.key)
		}
	}
	for _, kid := range at.kids[len(at.kids):cap(at.kids)] {
		if kid != nil {
			t.Fatalf("%s: a node is kept in spare room", what)
		}
	}
}

// TestShape: behind each Put and Delete of many, while the tree grows, stays as great as it is, and shrinks.
func TestShape(t *testing.T) {
	for seed := range 8 {
		r := rand.New(rand.NewSource(int64(seed)))
		x := New[*int]()
		for n := range 6000 {
			key := strconv.Itoa(r.Intn(1500))
			if r.Intn(10) < []int{9, 5, 1}[n/2000] {
				x.Put(key, &n)
			} else {
				x.Delete(key)
			}
			if n%3 == 0 {
				right(t, "seed "+strconv.Itoa(seed)+", step "+strconv.Itoa(n), x)
			}
		}
		for k := 0; x.Len() > 0; k++ {
			key, _, _ := x.At(k % x.Len())
			x.Delete(key)
			right(t, "to the end", x)
		}
		if x.root != nil {
			t.Fatal("a root without keys is kept")
		}
	}
}

// two is a tree of two floors, whose leaves have so many keys each.
func two(leaves ...int) *Tree[*int] {
	root, at := &node[*int]{}, 100
	next := func() item[*int] {
		at++
		return item[*int]{key: strconv.Itoa(at), value: new(int)}
	}
	for i, n := range leaves {
		leaf := &node[*int]{}
		for range n {
			leaf.items = append(leaf.items, next())
		}
		leaf.recount()
		root.kids = append(root.kids, leaf)
		if i < len(leaves)-1 {
			root.items = append(root.items, next())
		}
	}
	root.recount()
	return &Tree[*int]{root: root}
}

// leavesOf is how many keys each leaf of a tree of two floors has.
func leavesOf(x *Tree[*int]) string {
	s := ""
	for _, kid := range x.root.kids {
		s += strconv.Itoa(len(kid.items)) + " "
	}
	return s
}

// TestOneTooFew: a leaf of 7 keys that loses one takes one from beside it, if that can give one; else the two are one.
func TestOneTooFew(t *testing.T) {
	for _, c := range []struct {
		leaves []int
		lose   int // the number of the leaf
		want   string
	}{
		{[]int{8, 7}, 0, "7 7 "},
		{[]int{8, 7}, 1, "7 7 "},
		{[]int{7, 8}, 0, "7 7 "},
		{[]int{7, 8}, 1, "7 7 "},
		{[]int{7, 15, 7}, 0, "7 14 7 "},
		{[]int{7, 15, 7}, 2, "7 14 7 "},
		{[]int{15, 7, 7}, 1, "14 7 7 "},
		{[]int{7, 7, 15}, 1, "7 7 14 "},
		{[]int{7, 7, 15}, 0, "14 15 "},
		{[]int{7, 7, 7}, 1, "14 7 "},
		{[]int{15, 7, 7}, 2, "15 14 "},
		{[]int{7, 7, 7, 7}, 3, "7 7 14 "},
	} {
		for place := range c.leaves[c.lose] {
			x := two(c.leaves...)
			key := x.root.kids[c.lose].items[place].key
			n := x.Len()
			if _, is := x.Delete(key); !is || x.Len() != n-1 {
				t.Fatalf("%v: Delete(%s): %v, %d keys", c.leaves, key, is, x.Len())
			}
			right(t, "behind a Delete", x)
			if leavesOf(x) != c.want {
				t.Errorf("%v, leaf %d: %s, want %s", c.leaves, c.lose, leavesOf(x), c.want)
			}
		}
	}
}

// TestRootGoes: two leaves of 7 keys and the root's one are a root of 14 as soon as one goes, wherever it stood.
func TestRootGoes(t *testing.T) {
	for i := range 15 {
		x := two(7, 7)
		key, _, _ := x.At(i)
		if _, is := x.Delete(key); !is || x.Height() != 1 || x.Len() != 14 || len(x.root.items) != 14 {
			t.Fatalf("Delete(%s): %v, %d floors, %d keys", key, is, x.Height(), x.Len())
		}
		right(t, "behind a Delete", x)
	}
}

// TestOneTooMany: a leaf of 15 keys that gets one more is two from then on, wherever that one stands; and so is a root of 15.
func TestOneTooMany(t *testing.T) {
	for i := range 16 {
		x := two(7, 15, 7)
		ahead, _, _ := x.At(7 + i)
		key := ahead + "!"
		if _, is := x.Put(key, nil); is || len(x.root.kids) != 4 || x.Len() != 32 {
			t.Fatalf("Put(%s): %v, leaves %s", key, is, leavesOf(x))
		}
		right(t, "behind a Put", x)
	}
	for i := range 256 {
		x := two(15, 15, 15, 15, 15, 15, 15, 15, 15, 15, 15, 15, 15, 15, 15, 15)
		if x.Len() != 255 || x.Height() != 2 {
			t.Fatalf("%d keys on %d floors", x.Len(), x.Height())
		}
		key := "!"
		if i > 0 {
			key, _, _ = x.At(i - 1)
			key += "!"
		}
		if _, is := x.Put(key, nil); is || x.Len() != 256 || x.Height() != 3 || x.Rank(key) != i {
			t.Fatalf("Put(%s): %v, %d keys on %d floors", key, is, x.Len(), x.Height())
		}
		right(t, "behind a Put", x)
	}
}

// TestInnerKey: what is taken out of an inner node leaves the other keys as they are, whatever the leaves beside it have.
func TestInnerKey(t *testing.T) {
	for _, leaves := range [][]int{{7, 7}, {7, 8}, {8, 7}, {15, 15}, {7, 7, 7}, {7, 15, 7}, {15, 7, 15}, {8, 7, 7, 8}} {
		for i := range len(leaves) - 1 {
			x := two(leaves...)
			key := x.root.items[i].key
			n, rank := x.Len(), x.Rank(key)
			if _, is := x.Delete(key); !is || x.Len() != n-1 || x.Rank(key) != rank {
				t.Fatalf("%v: Delete(%s): %v, %d keys, rank %d", leaves, key, is, x.Len(), x.Rank(key))
			}
			if _, is := x.Get(key); is {
				t.Fatalf("%v: %s is there still", leaves, key)
			}
			right(t, "behind a Delete", x)
		}
	}
}
