package tree_test

import (
	"iter"
	"slices"
	"testing"

	"confluence/tree"
)

// borders are keys and such as are none, at and beside some keys of a tree of n.
func borders(n int) []string {
	l := []string{"", "\x00", "0", "\xff", gap(-1)}
	for _, i := range []int{0, 1, 6, 7, 8, 15, 16, n / 3, n / 2, n - 9, n - 8, n - 2, n - 1} {
		l = append(l, name(i), name(i)+"\x00", gap(i), name(i)[:5])
	}
	return l
}

// TestE3Borders: each from with each to, of trees of one, two and three floors, that stand differently.
func TestE3Borders(t *testing.T) {
	for _, n := range []int{0, 1, 2, 15, 16, 40, 300} {
		for what, order := range orders(n) {
			x, p := grown(n, order)
			for _, from := range borders(n) {
				for _, to := range borders(n) {
					want := p.between(from, to)
					list(t, what+": Range "+from+" "+to, entries(x.Range(from, to)), want)
					list(t, what+": Back "+from+" "+to, entries(x.Back(from, to)), turned(want))
				}
			}
		}
	}
}

// TestE3ToBesideFrom: to at, just below and just above from, at each key.
func TestE3ToBesideFrom(t *testing.T) {
	x, p := grown(200, func(i int) int { return i })
	for i, e := range p {
		one := p[i : i+1]
		for _, c := range []struct {
			from, to string
			want     []entry
		}{
			{e.key, e.key, nil},
			{e.key, gap(i - 1), nil},
			{e.key, e.key[:5], nil},
			{e.key, e.key + "\x00", one},
			{e.key, gap(i), one},
			{e.key, name(i + 1), one},
			{e.key + "\x00", name(i + 1), nil},
			{gap(i - 1), e.key, nil},
			{gap(i - 1), e.key + "\x00", one},
			{gap(i), gap(i), nil},
			{gap(i), gap(i - 1), nil},
			{gap(i - 1), gap(i), one},
			{e.key, "\x00", nil},
			{e.key, "", p[i:]},
			{"", e.key, p[:i]},
		} {
			list(t, "Range "+c.from+" "+c.to, entries(x.Range(c.from, c.to)), c.want)
			list(t, "Back "+c.from+" "+c.to, entries(x.Back(c.from, c.to)), turned(c.want))
		}
	}
}

// TestE3EmptyKey: from "" on the empty key is told, too; to "" there is no end, whatever from is.
func TestE3EmptyKey(t *testing.T) {
	x := tree.New[int]()
	for i, key := range []string{"", "\x00", "a"} {
		x.Put(key, i+1)
	}
	for _, c := range []struct {
		from, to string
		want     []entry
	}{
		{"", "", []entry{{"", 1}, {"\x00", 2}, {"a", 3}}},
		{"", "\x00", []entry{{"", 1}}},
		{"", "a", []entry{{"", 1}, {"\x00", 2}}},
		{"\x00", "", []entry{{"\x00", 2}, {"a", 3}}},
		{"b", "", nil},
	} {
		list(t, "Range", entries(x.Range(c.from, c.to)), c.want)
		list(t, "Back", entries(x.Back(c.from, c.to)), turned(c.want))
	}
}

// both are the iterators of all keys of a tree, each with the list of what it should tell.
func both(x *tree.Tree[int], p plain) map[string]struct {
	over iter.Seq2[string, int]
	want []entry
} {
	return map[string]struct {
		over iter.Seq2[string, int]
		want []entry
	}{
		"Range": {x.Range("", ""), p},
		"Back":  {x.Back("", ""), turned(p)},
	}
}

// some goes over the first n of an iterator, and leaves it then.
func some(s iter.Seq2[string, int], n int) []entry {
	var l []entry
	for k, v := range s {
		if len(l) == n {
			break
		}
		l = append(l, entry{k, v})
	}
	return l
}

// TestE3LeftEarly: behind each number of keys; and gone over again, from the beginning.
func TestE3LeftEarly(t *testing.T) {
	x, p := grown(180, func(i int) int { return i })
	for what, b := range both(x, p) {
		for n := range 181 {
			list(t, what+", left early", some(b.over, n), b.want[:n])
		}
		list(t, what+", gone over again", entries(b.over), b.want)
	}
	held(t, "behind all of that", x, p)
}

// TestE3LeftOnce: behind a false no further key is handed to the loop.
func TestE3LeftOnce(t *testing.T) {
	x, p := grown(180, func(i int) int { return i })
	for what, b := range both(x, p) {
		for n := 1; n <= 180; n++ {
			calls := 0
			b.over(func(string, int) bool {
				calls++
				return calls < n
			})
			number(t, what+": how often it was handed one", calls, n)
		}
	}
}

// TestE3ReadsWhenGoneOver: iterators that were made of a tree without keys tell what is there when they are gone over, whatever was put and taken away by then.
func TestE3ReadsWhenGoneOver(t *testing.T) {
	x, p := tree.New[int](), plain{}
	over, back := x.Range("", ""), x.Back("", "")
	few, fewBack := x.Range(name(50), name(120)), x.Back(name(50), name(120))
	look := func(what string) {
		t.Helper()
		list(t, what+": Range", entries(over), p)
		list(t, what+": Back", entries(back), turned(p))
		list(t, what+": some of Range", entries(few), p.between(name(50), name(120)))
		list(t, what+": some of Back", entries(fewBack), turned(p.between(name(50), name(120))))
	}
	look("no keys")
	for i := range 300 {
		x.Put(name(i*7%300), i+1)
		p.put(name(i*7%300), i+1)
		look("behind a Put")
		some(over, 3)
		some(fewBack, 3)
	}
	x.Put(name(60), -1)
	p.put(name(60), -1)
	look("behind a Put of what was there")
	for i := range 300 {
		x.Delete(name(i * 11 % 300))
		p.delete(name(i * 11 % 300))
		look("behind a Delete")
	}
}

// TestE3WithinThemselves: loops over an iterator within a loop over it, some of them left early, do not disturb it.
func TestE3WithinThemselves(t *testing.T) {
	x, p := grown(140, func(i int) int { return i })
	for what, b := range both(x, p) {
		var outer []entry
		for k, v := range b.over {
			outer = append(outer, entry{k, v})
			n := len(outer)
			list(t, what+", within itself", some(b.over, n), b.want[:n])
			list(t, what+", within itself, to the end", entries(b.over), b.want)
		}
		list(t, what+", around", outer, b.want)
	}
}

// TestE3SideBySide: several goings over one iterator, each taken a step at a time.
func TestE3SideBySide(t *testing.T) {
	x, p := grown(140, func(i int) int { return i })
	for what, b := range both(x, p) {
		var got [3][]entry
		var next [3]func() (string, int, bool)
		for i := range next {
			n, stop := iter.Pull2(b.over)
			defer stop()
			next[i] = n
		}
		for step := range 140 * 6 {
			i := []int{0, 1, 0, 2, 0, 1}[step%6]
			if k, v, is := next[i](); is {
				got[i] = append(got[i], entry{k, v})
			}
		}
		for i := range got {
			list(t, what+", step by step", got[i], b.want)
		}
	}
}

// TestE3ReadsMeanwhile: the calls that read may be made within a loop.
func TestE3ReadsMeanwhile(t *testing.T) {
	x, p := grown(100, func(i int) int { return i })
	n := 0
	for k := range x.Range("", "") {
		number(t, "Rank within a loop", x.Rank(k), n)
		if n++; n%20 == 0 {
			held(t, "within a loop", x, p)
		}
	}
	number(t, "keys", n, len(p))
}

// TestE3ABodyThatPanics: what the loop's body throws comes out as it is, and the tree is as it was.
func TestE3ABodyThatPanics(t *testing.T) {
	x, p := grown(100, func(i int) int { return i })
	for what, b := range both(x, p) {
		func() {
			defer func() {
				if r := recover(); r != "mine" {
					t.Errorf("%s: %v", what, r)
				}
			}()
			for range b.over {
				panic("mine")
			}
		}()
		list(t, what, entries(b.over), b.want)
	}
	held(t, "behind that", x, p)
}

// TestChangedWithinALoop: nothing is promised of what such a loop tells; but it ends, without a panic, and the tree stays right.
func TestChangedWithinALoop(t *testing.T) {
	for _, falling := range []bool{false, true} {
		for seed := range 40 {
			x, p := grown(400, func(i int) int { return i })
			over := x.Range("", "")
			if falling {
				over = x.Back("", "")
			}
			n := 0
			for range over {
				n++
				if n > 100000 {
					t.Fatal("it does not end")
				}
				i := (n*7919 + seed*31) % 900
				if (n+seed)%(2+seed%5) == 0 {
					x.Put(name(i), n)
					p.put(name(i), n)
				} else {
					x.Delete(name(i))
					p.delete(name(i))
				}
			}
			held(t, "behind the loop", x, p)
		}
	}
}

// TestE3EntriesApart: lists of what was told stay as they are, whatever is done to the tree.
func TestE3EntriesApart(t *testing.T) {
	x, p := grown(100, func(i int) int { return i })
	l, was := entries(x.Range("", "")), slices.Clone(p)
	for i := range 100 {
		x.Put(name(i), -1)
		x.Delete(name(99 - i))
	}
	list(t, "what was told", l, was)
}
