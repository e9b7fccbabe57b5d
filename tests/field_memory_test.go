package tests

import (
	"slices"
	"testing"

	"loop.example/g00140/impl"
)

// fieldCalls are calls that some heaps take and others refuse.
func fieldCalls() []heapCall {
	set := func(w int64, i int64, x int64) func(impl.Heap) impl.Heap {
		return func(h impl.Heap) impl.Heap {
			out, _ := impl.Set(h, w, i, x)
			return out
		}
	}
	asked := func(w int64) func(impl.Heap) impl.Heap {
		return func(h impl.Heap) impl.Heap {
			impl.Get(h, w, 0)
			impl.Get(h, w, -1)
			impl.ClassOf(h, w)
			impl.HashOf(h, w)
			return impl.Heap{}
		}
	}
	return []heapCall{
		{"Set", set(ref(0), 0, num(5))}, {"Set of an old one to an old one", set(ref(0), 0, ref(0))}, {"Set of an old one to a young one", set(ref(0), 0, ref(2000))},
		{"Set of the next field", set(ref(0), 1, ref(2000))}, {"Set of another old one to a young one", set(ref(10), 1, ref(2000))}, {"Set of the last kept one", set(ref(17), 0, num(5))},
		{"Set of a young one", set(ref(2000), 0, num(5))}, {"Set of a young one to a young one", set(ref(2000), 0, ref(2000))}, {"Set of a survivor", set(ref(2600), 0, ref(2000))},
		{"Set of no field", set(ref(0), -1, 0)}, {"Set of a number", set(num(5), 0, 0)}, {"Set to no word", set(ref(0), 0, -1)}, {"Set to no object", set(ref(0), 0, ref(1))},
		{"asked of an old one", asked(ref(0))}, {"asked of a young one", asked(ref(2000))}, {"asked of a survivor", asked(ref(2600))}, {"asked of a number", asked(num(5))}, {"asked of no word", asked(-1)},
	}
}

func fieldHeaps() []namedHeap {
	return slices.Concat(memoryHeaps(), placedHeaps(), []namedHeap{
		{"full eden", edenLeft(0)}, {"20 roots", manyRoots(true, 20)}, {"none kept", keptHeap(false)}, {"large ones", largeHeap(true)},
	})
}

func TestFieldArgumentsStay(t *testing.T) {
	for _, c := range fieldHeaps() {
		for _, f := range fieldCalls() {
			h := roomyHeap(c.heap)
			out := f.call(h)
			wantSameHeap(t, f.name+", "+c.name, h, c.heap)
			wantApart(t, f.name+", "+c.name, slices.Concat(heapPieces(h), heapPieces(out))...)
			scribbleHeap(out)
			wantSameHeap(t, f.name+", scribbled, "+c.name, h, c.heap)
		}
	}
}

func TestSetHeapsAreNewMemory(t *testing.T) {
	for _, c := range fieldHeaps() {
		for _, f := range fieldCalls() {
			h := roomyHeap(c.heap)
			first, second := f.call(h), f.call(h)
			was := cloneHeap(first)
			wantApart(t, "two answers of "+f.name+", "+c.name, slices.Concat(heapPieces(first), heapPieces(second))...)
			scribbleHeap(second)
			if !sameHeap(first, was) {
				t.Errorf("%s, %s: two answers share memory", f.name, c.name)
			}
			scribbleHeap(h)
			if !sameHeap(first, was) {
				t.Errorf("%s, %s: the answer changed with the argument", f.name, c.name)
			}
		}
	}
}

// TestSetOfAHeapOfOneList has an argument whose roots and kept ones are a piece of its words: those of an answer are not.
func TestSetOfAHeapOfOneList(t *testing.T) {
	for _, f := range fieldCalls() {
		h := sharedHeap()
		out, want := f.call(h), f.call(cloneHeap(sharedHeap()))
		if !sameHeap(h, sharedHeap()) || !sameHeap(out, want) {
			t.Errorf("%s: a heap of one list is another one", f.name)
		}
		wantApart(t, f.name, append(heapPieces(out), pieceOf(h.Words))...)
	}
}

// TestListsOfASetHeapShareNothing appends to each list of an answer: it must not come to be another one's.
func TestListsOfASetHeapShareNothing(t *testing.T) {
	for _, c := range fieldHeaps() {
		for _, f := range fieldCalls() {
			h := f.call(c.heap)
			was := cloneHeap(h)
			roots, kept, words := append(h.Roots, 5), append(h.Kept, 6), append(h.Words, 7)
			if !sameHeap(h, was) || roots[len(h.Roots)] != 5 || kept[len(h.Kept)] != 6 || words[len(h.Words)] != 7 {
				t.Errorf("%s, %s: two lists share spare room", f.name, c.name)
			}
		}
	}
}

// TestFieldsHangOnTheArgumentsAlone asks of one heap, of others, and of the first one again.
func TestFieldsHangOnTheArgumentsAlone(t *testing.T) {
	for _, c := range fieldHeaps() {
		for _, f := range fieldCalls() {
			before := f.call(c.heap)
			wantWritten(t, "mid heap between", midHeap(false), 10, 0, ref(2000), []int64{0, 10, 17})
			wantNoField(t, "zero heap between", impl.Heap{}, ref(10), 0)
			wantTold(t, "mid heap between", midHeap(true), ref(2900), [2]int64{2, 12})
			if !sameHeap(f.call(c.heap), before) {
				t.Errorf("%s, %s: it is another one now", f.name, c.name)
			}
		}
	}
}
