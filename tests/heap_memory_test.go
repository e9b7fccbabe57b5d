package tests

import (
	"slices"
	"testing"

	"loop.example/g00140/impl"
)

// roomyList is a list with marked spare room behind it.
func roomyList(list []int64) []int64 {
	return slices.Concat(list, slices.Repeat([]int64{77}, spare))[:len(list)]
}

func roomyHeap(h impl.Heap) impl.Heap {
	h.Words, h.Roots, h.Kept = roomyList(h.Words), roomyList(h.Roots), roomyList(h.Kept)
	return h
}

// wantSameHeap fails unless h, and the spare room behind its lists, is as roomyHeap(was) was made.
func wantSameHeap(t *testing.T, name string, h impl.Heap, was impl.Heap) {
	t.Helper()
	if !sameHeap(h, was) {
		t.Errorf("%s: an argument was changed", name)
	}
	for _, list := range [][]int64{h.Words, h.Roots, h.Kept} {
		if !slices.Equal(list[len(list):len(list)+spare], slices.Repeat([]int64{77}, spare)) {
			t.Errorf("%s: %v behind a list", name, list[len(list):len(list)+spare])
		}
	}
}

func scribbleHeap(h impl.Heap) {
	for _, list := range [][]int64{h.Words, h.Roots, h.Kept} {
		scribbleList(list)
	}
}

func scribbleList(list []int64) {
	list = list[:cap(list)]
	for i := range list {
		list[i] = 88
	}
}

func memoryHeaps() []namedHeap {
	n := numbers(53)
	out := []namedHeap{{"new", impl.NewHeap()}, {"mid", midHeap(false)}, {"mid, the other survivors", midHeap(true)}}
	for range 20 {
		out = append(out, namedHeap{"drawn", drawnHeap(&n)})
	}
	return slices.Concat(out, wrongCounts(), crossing(), wrongParts(), wrongHashes(), wrongRoots(), wrongKept())
}

func TestHeapArgumentsStay(t *testing.T) {
	for _, c := range memoryHeaps() {
		h := roomyHeap(c.heap)
		impl.HeapOk(h)
		wantSameHeap(t, "HeapOk, "+c.name, h, c.heap)
		impl.Young(h)
		wantSameHeap(t, "Young, "+c.name, h, c.heap)
		for _, at := range []int64{0, 1, 2000, 2600, 2900, -1, 3200} {
			impl.Header(h, at)
		}
		wantSameHeap(t, "Header, "+c.name, h, c.heap)
		objects := impl.Objects(h)
		wantSameHeap(t, "Objects, "+c.name, h, c.heap)
		scribbleList(objects)
		wantSameHeap(t, "Objects, scribbled, "+c.name, h, c.heap)
	}
}

func TestObjectsAreNewMemory(t *testing.T) {
	for _, c := range memoryHeaps() {
		h := roomyHeap(c.heap)
		first, second := impl.Objects(h), impl.Objects(h)
		was := slices.Clone(first)
		scribbleList(second)
		if !slices.Equal(first, was) {
			t.Errorf("%s: two answers share memory", c.name)
		}
		scribbleHeap(h)
		if !slices.Equal(first, was) {
			t.Errorf("%s: the answer changed with the argument", c.name)
		}
	}
}

func TestNewHeapsShareNothing(t *testing.T) {
	first, second := impl.NewHeap(), impl.NewHeap()
	scribbleHeap(first)
	first.Old, first.Hash = 5, 5
	want := impl.Heap{Words: make([]int64, 3200), Eden: 2000, Surv: 2600, Hash: 1}
	if !sameHeap(second, want) || !sameHeap(impl.NewHeap(), want) {
		t.Error("two new heaps share memory")
	}
}

// TestListsOfANewHeapShareNothing appends to each list of a heap: it must not come to be another one's.
func TestListsOfANewHeapShareNothing(t *testing.T) {
	h := impl.NewHeap()
	roots, kept, words := append(h.Roots, 5), append(h.Kept, 6), append(h.Words, 7)
	if roots[0] != 5 || kept[0] != 6 || words[3200] != 7 || !slices.Equal(h.Words, make([]int64, 3200)) {
		t.Error(roots, kept, words[3200])
	}
}

// TestAnswersHangOnTheArgumentsAlone asks of one heap, of others, and of the first one again.
func TestAnswersHangOnTheArgumentsAlone(t *testing.T) {
	for _, c := range memoryHeaps() {
		before := heapAnswer{impl.HeapOk(c.heap), impl.Objects(c.heap), impl.Young(c.heap)}
		wantHeap(t, "mid heap between", midHeap(false), midObjects(false))
		wantWrongHeap(t, "zero heap between", impl.Heap{})
		wantHeapAnswer(t, c.name+", again", c.heap, before)
	}
}
