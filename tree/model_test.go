package tree_test

import (
	"math/rand"
	"strconv"
	"testing"

	"confluence/tree"
)

// TestE6Random: Puts and Deletes in any order, held against a plain sorted list, call by call.
func TestE6Random(t *testing.T) {
	for seed := range 24 {
		r := rand.New(rand.NewSource(int64(seed)))
		x, p := tree.New[int](), plain{}
		keys := 20 + r.Intn(600)
		for n := range 2500 {
			key := anyKey(r, keys)
			if likes := 1 + 8*(n/500%2); r.Intn(10) >= likes {
				old, is := x.Put(key, n)
				want, as := p.put(key, n)
				value(t, "Put", old, is, want, as)
			} else {
				old, is := x.Delete(key)
				want, as := p.delete(key)
				value(t, "Delete", old, is, want, as)
			}
			asked(t, r, x, p, keys)
			if n%250 == 249 {
				held(t, "seed "+strconv.Itoa(seed), x, p)
			}
		}
	}
}

// anyKey is one of so many, of different lengths, many of which begin with others.
func anyKey(r *rand.Rand, keys int) string {
	k := strconv.FormatInt(int64(r.Intn(keys)), 3)
	switch {
	case k == "0":
		return ""
	case r.Intn(2) == 0:
		return k
	default:
		return k + "\xff"[:r.Intn(2)] + "\x00"[:r.Intn(2)]
	}
}

// asked holds one answer of each call that reads against the list.
func asked(t *testing.T, r *rand.Rand, x *tree.Tree[int], p plain, keys int) {
	t.Helper()
	number(t, "Len", x.Len(), len(p))
	floors(t, "Height", x)
	key := anyKey(r, keys)
	v, is := x.Get(key)
	w, as := p.get(key)
	value(t, "Get", v, is, w, as)
	number(t, "Rank", x.Rank(key), p.below(key))
	k := r.Intn(len(p)+3) - 1
	if k < 0 || k >= len(p) {
		nothingAt(t, "a number that is none", x, k)
	} else if key, v, is := x.At(k); (entry{key, v}) != p[k] || !is {
		t.Fatalf("At(%d): %q, %d, %v", k, key, v, is)
	}
	if r.Intn(8) == 0 {
		from, to := anyKey(r, keys), anyKey(r, keys)
		want := p.between(from, to)
		list(t, "Range", entries(x.Range(from, to)), want)
		list(t, "Back", entries(x.Back(from, to)), turned(want))
		n := r.Intn(len(want) + 1)
		list(t, "Range, left early", some(x.Range(from, to), n), want[:n])
		list(t, "Back, left early", some(x.Back(from, to), n), turned(want)[:n])
	}
}

// TestE6AllOrders: each order of putting with each order of taking away, looked at from time to time.
func TestE6AllOrders(t *testing.T) {
	const n = 330
	for in, order := range orders(n) {
		for out, other := range orders(n) {
			x, p := grown(n, order)
			held(t, in, x, p)
			for i := range n {
				v, is := x.Delete(name(other(i)))
				value(t, in+", "+out+": Delete", v, is, other(i)+1, true)
				p.delete(name(other(i)))
				floors(t, in+", "+out, x)
				if i%11 == 0 || i > n-40 {
					held(t, in+", "+out, x, p)
				}
			}
		}
	}
}

// TestE6HowItCame: what is told does not hang on how the keys came to be there.
func TestE6HowItCame(t *testing.T) {
	_, p := grown(260, func(i int) int { return i })
	for what, order := range orders(260) {
		x, _ := grown(260, order)
		held(t, what, x, p)
		for i := range 260 {
			x.Put(gap(order(i)), 0)
		}
		for i := range 260 {
			x.Delete(gap(order(259 - i)))
		}
		held(t, what+", with others between that were taken away", x, p)
	}
}

// TestE5Height: of few keys just so; of many between the bounds, while they rise and while they fall.
func TestE5Height(t *testing.T) {
	x := tree.New[int]()
	number(t, "of no keys", x.Height(), 0)
	for i := range 5000 {
		x.Put(name(i), i)
		floors(t, "rising", x)
		switch x.Len() {
		case 1, 15:
			number(t, "of 1 and of 15", x.Height(), 1)
		case 16, 126:
			number(t, "of 16 and of 126", x.Height(), 2)
		case 256, 1022:
			number(t, "of 256 and of 1022", x.Height(), 3)
		case 4096:
			number(t, "of 4096", x.Height(), 4)
		}
	}
	for i := range 5000 {
		x.Delete(name(i))
		floors(t, "falling", x)
		switch x.Len() {
		case 1022, 256:
			number(t, "of 1022 and of 256", x.Height(), 3)
		case 126, 16:
			number(t, "of 126 and of 16", x.Height(), 2)
		case 14, 1:
			number(t, "of 14 and of 1", x.Height(), 1)
		}
	}
	number(t, "of no keys any more", x.Height(), 0)
}

// TestE5PutsOfTheSame: a key that is there again and again lets no floor grow.
func TestE5PutsOfTheSame(t *testing.T) {
	x, p := grown(15, func(i int) int { return i })
	for i := range 100 {
		x.Put(name(i%15), i+1)
		number(t, "Height", x.Height(), 1)
	}
	number(t, "Len", x.Len(), len(p))
}

// TestGreat: many keys; none of the calls goes over all of them.
func TestGreat(t *testing.T) {
	const n = 200000
	x := tree.New[int]()
	for i := range n {
		j := i * step(n) % n
		x.Put(name(j), j)
	}
	number(t, "Len", x.Len(), n)
	floors(t, "Height", x)
	for i := range n {
		v, is := x.Get(name(i))
		value(t, "Get", v, is, i, true)
		number(t, "Rank", x.Rank(name(i)), i)
		k, v, is := x.At(i)
		if k != name(i) || v != i || !is {
			t.Fatalf("At(%d): %q, %d, %v", i, k, v, is)
		}
		list(t, "Range", some(x.Range(name(i), ""), 1), []entry{{name(i), i}})
		list(t, "Back", some(x.Back("", gap(i)), 1), []entry{{name(i), i}})
	}
	for i := range n {
		j := i * step(n) % n
		v, is := x.Delete(name(j))
		value(t, "Delete", v, is, j, true)
	}
	nothing(t, "at the end", x)
}

// TestLongKeys: keys that have all but their last bytes in common.
func TestLongKeys(t *testing.T) {
	x, p := tree.New[int](), plain{}
	long := string(make([]byte, 5000))
	for i := range 200 {
		key := long[:4900+i*37%100] + strconv.Itoa(i*13%200)
		x.Put(key, i+1)
		p.put(key, i+1)
	}
	held(t, "long keys", x, p)
}
