package merge

import (
	"cmp"
	"math"
	"math/rand"
	"slices"
	"strconv"
	"testing"

	"confluence/api"
)

// right holds a heap against its words: none comes ahead of the one above it, and its spare room keeps nothing.
func right[K cmp.Ordered, V comparable](t *testing.T, heap []item[K, V]) {
	t.Helper()
	for i := 1; i < len(heap); i++ {
		if ahead(heap[i], heap[(i-1)/2]) {
			t.Fatalf("item %d comes ahead of the one above it", i)
		}
	}
	for _, it := range heap[len(heap):cap(heap)] {
		if it != (item[K, V]{}) {
			t.Fatalf("%v is kept in spare room", it)
		}
	}
}

// sorts lets items of any ranks go through a heap.
func sorts[K cmp.Ordered](t *testing.T, ranks []K) {
	t.Helper()
	heap := empty[K, string]()
	var want []item[K, string]
	for i, rank := range ranks {
		it := item[K, string]{rank: rank, turn: i, thing: strconv.Itoa(i)}
		want = append(want, it)
		heap = push(heap, it)
		right(t, heap)
	}
	slices.SortStableFunc(want, func(a, b item[K, string]) int { return cmp.Compare(a.rank, b.rank) })
	for i, w := range want {
		var got item[K, string]
		got, heap = pop(heap)
		if got.turn != w.turn || got.thing != w.thing || len(heap) != len(want)-i-1 {
			t.Fatalf("number %d: %v, want %v", i, got, w)
		}
		right(t, heap)
	}
}

// TestHeap: over numbers, texts and floats, with few ranks and with many.
func TestHeap(t *testing.T) {
	r := rand.New(rand.NewSource(1))
	for n := range 60 {
		for _, few := range []int{1, 3, 1000} {
			numbers, texts, floats := make([]int, n), make([]string, n), make([]float64, n)
			for i := range n {
				numbers[i] = r.Intn(few) - few/2
				texts[i] = strconv.Itoa(numbers[i])
				floats[i] = float64(numbers[i]) / 3
			}
			sorts(t, numbers)
			sorts(t, texts)
			sorts(t, floats)
		}
	}
	sorts(t, []float64{1, math.NaN(), -1, math.Inf(-1), math.NaN(), math.Inf(1), 0})
	sorts(t, []uint8{255, 0, 128, 127, 255})
}

// TestHeapGrows: it begins in an array of its own, and grows into a new one that has nothing to do with it.
func TestHeapGrows(t *testing.T) {
	heap := empty[int, int]()
	if len(heap) != 0 || cap(heap) != room {
		t.Fatalf("%d items, room for %d", len(heap), cap(heap))
	}
	first := heap[:room]
	for i := range room {
		heap = push(heap, item[int, int]{rank: -i})
	}
	if &heap[0] != &first[0] {
		t.Fatal("another array ahead of need")
	}
	was := slices.Clone(first)
	for i := range 5 * room {
		heap = push(heap, item[int, int]{rank: -room - i})
		right(t, heap)
	}
	if !slices.Equal(first, was) {
		t.Fatal("the first array is still written into")
	}
	other := empty[int, int]()
	if &other[:1][0] == &empty[int, int]()[:1][0] {
		t.Fatal("two heaps begin in one array")
	}
}

// TestNothingIsKept: behind each call the heap is right, and of a row that has said false nothing is left.
func TestNothingIsKept(t *testing.T) {
	r := rand.New(rand.NewSource(2))
	for range 200 {
		m := New()
		for n := range 60 {
			if r.Intn(3) == 0 {
				m.Next()
			} else {
				left := r.Intn(4)
				m.Add(func() (api.Change, bool) {
					left--
					return api.Change{Lsn: (n * 7) % (left + 20)}, left >= 0
				})
			}
			right(t, m.heap)
		}
		for _, is := m.Next(); is; _, is = m.Next() {
			right(t, m.heap)
		}
		right(t, m.heap)
	}
}
