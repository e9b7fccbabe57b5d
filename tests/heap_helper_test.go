package tests

import (
	"math"
	"slices"
	"testing"

	"loop.example/g00140/impl"
)

// farHeapNumbers are no addresses, no sizes, no classes, no ages and no hashes of a heap; added up, doubled or cut to fewer bits some of them would be.
var farHeapNumbers = []int64{
	math.MinInt64, math.MinInt64 + 1, math.MinInt64 + 4, -1 << 33, -1 << 32, -6401, -3200, -2000, -65, -64, -5, -4, -3, -2, -1,
	1 << 32, 1<<32 + 1, 1 << 33, 1 << 62, 1<<62 + 1, math.MaxInt64 - 4, math.MaxInt64 - 3, math.MaxInt64 - 1, math.MaxInt64,
}

// thing is an object to be laid down.
type thing struct {
	class, hash, age int64
	fields           []int64
}

func aThing(class int64, hash int64, age int64, fields ...int64) thing {
	return thing{class, hash, age, fields}
}

// ref is the word of an address, num that of a number.
func ref(a int64) int64 { return a + a + 1 }

func num(n int64) int64 { return n + n }

// lay puts things one behind the other from an address on, and tells where they end.
func lay(words []int64, at int64, things []thing) int64 {
	for _, x := range things {
		all := slices.Concat([]int64{int64(len(x.fields)), x.class, x.hash, x.age}, x.fields)
		at += int64(copy(words[at:], all))
	}
	return at
}

// laidHeap has these things in its spaces, Hash as low as it may be, and no root. Kept is left to the caller.
func laidHeap(flip bool, old []thing, eden []thing, surv []thing) impl.Heap {
	h := impl.Heap{Words: make([]int64, 3200), Flip: flip, Hash: 1}
	from := int64(2600)
	if flip {
		from = 2900
	}
	h.Old, h.Eden, h.Surv = lay(h.Words, 0, old), lay(h.Words, 2000, eden), lay(h.Words, from, surv)
	for _, x := range slices.Concat(old, eden, surv) {
		h.Hash = max(h.Hash, x.hash+1)
	}
	return h
}

func cloneHeap(h impl.Heap) impl.Heap {
	h.Words, h.Roots, h.Kept = slices.Clone(h.Words), slices.Clone(h.Roots), slices.Clone(h.Kept)
	return h
}

func sameHeap(a impl.Heap, b impl.Heap) bool {
	return slices.Equal(a.Words, b.Words) && slices.Equal(a.Roots, b.Roots) && slices.Equal(a.Kept, b.Kept) &&
		a.Old == b.Old && a.Eden == b.Eden && a.Surv == b.Surv && a.Flip == b.Flip && a.Hash == b.Hash
}

// filled are things that take just so many words: as large ones as there may be, then one of what is left.
func filled(words int64, hash int64) []thing {
	var out []thing
	for words > 0 {
		size := min(60, words-4)
		if left := words - 4 - size; left > 0 && left < 4 {
			size -= 4
		}
		out = append(out, aThing(7, hash, 0, make([]int64, size)...))
		words -= 4 + size
		hash++
	}
	return out
}

// smallest are n things without a field.
func smallest(n int, hash int64) []thing {
	var out []thing
	for range n {
		out = append(out, aThing(hash%100, hash, hash%16))
		hash++
	}
	return out
}

// midHeap has objects in all three spaces whose fields and roots are addresses across them, and numbers:
// old ones at 0 (2 fields), 6 (no field), 10 (3), 17 (1) up to 22; young ones at 2000 (1), 2005 (no field) up to 2009;
// survivors at 2600 (2) and 2606 (no field) up to 2610, or 300 further on.
func midHeap(flip bool) impl.Heap {
	s := int64(2600)
	if flip {
		s = 2900
	}
	old := []thing{aThing(9, 4, 0, ref(2000), num(-7)), aThing(0, 1, 15), aThing(99, 7, 3, ref(6), num(2001), ref(10)), aThing(1, 2, 4, ref(s))}
	eden := []thing{aThing(5, 8, 0, ref(0)), aThing(3, 10, 0)}
	surv := []thing{aThing(2, 12, 1, ref(2005), ref(17)), aThing(4, 11, 2)}
	h := laidHeap(flip, old, eden, surv)
	h.Roots = []int64{ref(10), num(1000000000), ref(2000), ref(s + 6), num(0)}
	h.Kept = []int64{0, 17}
	return h
}

// midObjects are the objects of midHeap.
func midObjects(flip bool) []int64 {
	if flip {
		return []int64{0, 6, 10, 17, 2000, 2005, 2900, 2906}
	}
	return []int64{0, 6, 10, 17, 2000, 2005, 2600, 2606}
}

type namedHeap struct {
	name string
	heap impl.Heap
}

// heapAnswer is all that the chapter's functions tell of a heap.
type heapAnswer struct {
	ok      bool
	objects []int64
	young   int64
}

// wantHeap fails unless h is right, with just these objects.
func wantHeap(t *testing.T, name string, h impl.Heap, objects []int64) {
	t.Helper()
	young := int64(0)
	for _, at := range objects {
		if at >= 2000 {
			young++
		}
	}
	wantHeapAnswer(t, name, h, heapAnswer{true, objects, young})
}

// wantWrongHeap fails unless every function gives the answer that is fixed for a heap that is not right.
func wantWrongHeap(t *testing.T, name string, h impl.Heap) {
	t.Helper()
	defer noPanic(t, name)
	wantHeapAnswer(t, name, h, heapAnswer{young: -1})
}

func wantHeapAnswer(t *testing.T, name string, h impl.Heap, want heapAnswer) {
	t.Helper()
	if ok := impl.HeapOk(h); ok != want.ok {
		t.Errorf("%s: HeapOk is %v", name, ok)
	}
	if objects := impl.Objects(h); !slices.Equal(objects, want.objects) {
		t.Errorf("%s: Objects are %v, not %v", name, objects, want.objects)
	}
	if young := impl.Young(h); young != want.young {
		t.Errorf("%s: Young is %d, not %d", name, young, want.young)
	}
	for _, at := range []int64{0, 6, 2000, 2600, 2900} {
		head := [4]int64{-1, -1, -1, -1}
		if slices.Contains(want.objects, at) {
			head = [4]int64(h.Words[at : at+4])
		}
		wantHeader(t, name, h, at, head)
	}
}

func wantHeader(t *testing.T, name string, h impl.Heap, at int64, want [4]int64) {
	t.Helper()
	size, class, hash, age := impl.Header(h, at)
	if got := [4]int64{size, class, hash, age}; got != want {
		t.Errorf("%s: Header at %d is %v, not %v", name, at, got, want)
	}
}
