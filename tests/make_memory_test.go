package tests

import (
	"slices"
	"testing"

	"loop.example/g00140/impl"
)

type heapCall struct {
	name string
	call func(h impl.Heap) impl.Heap
}

// makeCalls are calls that some heaps take and others refuse.
func makeCalls() []heapCall {
	made := func(class int64, size int64) func(impl.Heap) impl.Heap {
		return func(h impl.Heap) impl.Heap {
			out, _, _ := impl.New(h, class, size)
			return out
		}
	}
	added := func(w int64) func(impl.Heap) impl.Heap {
		return func(h impl.Heap) impl.Heap {
			out, _ := impl.AddRoot(h, w)
			return out
		}
	}
	set := func(i int64, w int64) func(impl.Heap) impl.Heap {
		return func(h impl.Heap) impl.Heap {
			out, _ := impl.SetRoot(h, i, w)
			return out
		}
	}
	return []heapCall{
		{"New", made(3, 2)}, {"New of nothing", made(0, 0)}, {"New of 60", made(99, 60)}, {"New of no class", made(100, 2)}, {"New of no size", made(3, 61)},
		{"Room", func(h impl.Heap) impl.Heap { impl.Room(h); return impl.Heap{} }},
		{"AddRoot", added(num(5))}, {"AddRoot of an old one", added(ref(0))}, {"AddRoot of a young one", added(ref(2000))}, {"AddRoot of no word", added(-1)},
		{"SetRoot", set(0, num(5))}, {"SetRoot of the next", set(1, ref(0))}, {"SetRoot of a young one", set(0, ref(2000))}, {"SetRoot of no root", set(-1, 0)}, {"SetRoot of no word", set(0, -1)},
	}
}

func makeHeaps() []namedHeap {
	return slices.Concat(memoryHeaps(), placedHeaps(), []namedHeap{
		{"full eden", edenLeft(0)}, {"room for one", edenLeft(6)}, {"19 roots", manyRoots(false, 19)}, {"20 roots", manyRoots(true, 20)},
	})
}

func TestMakeArgumentsStay(t *testing.T) {
	for _, c := range makeHeaps() {
		for _, f := range makeCalls() {
			h := roomyHeap(c.heap)
			out := f.call(h)
			wantSameHeap(t, f.name+", "+c.name, h, c.heap)
			wantApart(t, f.name+", "+c.name, slices.Concat(heapPieces(h), heapPieces(out))...)
			scribbleHeap(out)
			wantSameHeap(t, f.name+", scribbled, "+c.name, h, c.heap)
		}
	}
}

func TestMadeHeapsAreNewMemory(t *testing.T) {
	for _, c := range makeHeaps() {
		for _, f := range makeCalls() {
			h := roomyHeap(c.heap)
			first, second := f.call(h), f.call(h)
			was := cloneHeap(first)
			wantApart(t, "two answers of "+f.name+", "+c.name, slices.Concat(heapPieces(first), heapPieces(second))...)
			scribbleHeap(second)
			if !sameHeap(first, was) {
				t.Errorf("%s, %s: two answers share memory", f.name, c.name)
			}
			scribbleHeap(h)
			if !sameHeap(first, was) {
				t.Errorf("%s, %s: the answer changed with the argument", f.name, c.name)
			}
		}
	}
}

// sharedHeap has roots and kept ones that are a piece of its words, with other words as the spare room behind them.
func sharedHeap() impl.Heap {
	h := laidHeap(false, []thing{aThing(1, 1, 0, ref(2000))}, []thing{aThing(2, 2, 0)}, nil)
	h.Roots, h.Kept = h.Words[3000:3002], h.Words[3000:3001]
	return h
}

// TestHeapsOfOneListAtSeveralPlaces has an argument whose lists are one list: those of an answer are not.
func TestHeapsOfOneListAtSeveralPlaces(t *testing.T) {
	if !impl.HeapOk(sharedHeap()) {
		t.Fatal("it is not right")
	}
	for _, f := range makeCalls() {
		h := sharedHeap()
		out, want := f.call(h), f.call(cloneHeap(sharedHeap()))
		if !sameHeap(h, sharedHeap()) || !sameHeap(out, want) {
			t.Errorf("%s: a heap of one list is another one", f.name)
		}
		wantApart(t, f.name, append(heapPieces(out), pieceOf(h.Words))...)
	}
}

// TestListsOfAMadeHeapShareNothing appends to each list of an answer: it must not come to be another one's.
func TestListsOfAMadeHeapShareNothing(t *testing.T) {
	for _, c := range placedHeaps() {
		for _, f := range makeCalls() {
			h := f.call(c.heap)
			was := cloneHeap(h)
			roots, kept, words := append(h.Roots, 5), append(h.Kept, 6), append(h.Words, 7)
			if !sameHeap(h, was) || roots[len(h.Roots)] != 5 || kept[len(h.Kept)] != 6 || words[len(h.Words)] != 7 {
				t.Errorf("%s, %s: two lists share spare room", f.name, c.name)
			}
		}
	}
}

// TestMakesHangOnTheArgumentsAlone asks of one heap, of others, and of the first one again.
func TestMakesHangOnTheArgumentsAlone(t *testing.T) {
	for _, c := range makeHeaps() {
		for _, f := range makeCalls() {
			before := f.call(c.heap)
			wantMade(t, "mid heap between", midHeap(false), 5, 5)
			wantNotMade(t, "zero heap between", impl.Heap{}, 5, 5)
			if !sameHeap(f.call(c.heap), before) {
				t.Errorf("%s, %s: it is another one now", f.name, c.name)
			}
		}
	}
}
