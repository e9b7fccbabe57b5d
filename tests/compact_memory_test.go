package tests

import (
	"slices"
	"testing"

	"loop.example/g00140/impl"
)

// compactCalls are the chapter's functions.
func compactCalls() []heapCall {
	return []heapCall{
		{"Compact", func(h impl.Heap) impl.Heap {
			out, _ := impl.Compact(h)
			return out
		}},
		{"Garbage", func(h impl.Heap) impl.Heap { return impl.Heap{Hash: impl.Garbage(h)} }},
		{"Moves", func(h impl.Heap) impl.Heap { return impl.Heap{Roots: impl.Moves(h)} }},
	}
}

func compactHeaps() []namedHeap {
	n := numbers(113)
	out := slices.Concat(memoryHeaps(), placedHeaps(), []namedHeap{
		{"full eden", edenLeft(0)}, {"20 roots", manyRoots(true, 20)}, {"large ones", largeHeap(true)},
		{"all is reached", chained(true, 1100, 600, 300)}, {"no room", chained(false, 1101, 600, 300)}, {"small ones", smallOnes(300)},
	})
	for range 40 {
		out = append(out, namedHeap{"drawn", drawnYoung(&n)})
	}
	return out
}

func TestCompactArgumentsStay(t *testing.T) {
	for _, c := range compactHeaps() {
		for _, f := range compactCalls() {
			h := roomyHeap(c.heap)
			out := f.call(h)
			wantSameHeap(t, f.name+", "+c.name, h, c.heap)
			wantApart(t, f.name+", "+c.name, slices.Concat(heapPieces(h), heapPieces(out))...)
			scribbleHeap(out)
			wantSameHeap(t, f.name+", scribbled, "+c.name, h, c.heap)
		}
	}
}

func TestCompactAnswersAreNewMemory(t *testing.T) {
	for _, c := range compactHeaps() {
		for _, f := range compactCalls() {
			h := roomyHeap(c.heap)
			first, second := f.call(h), f.call(h)
			was := cloneHeap(first)
			wantApart(t, "two answers of "+f.name+", "+c.name, slices.Concat(heapPieces(first), heapPieces(second))...)
			scribbleHeap(second)
			if !sameHeap(first, was) {
				t.Errorf("%s, %s: two answers share memory", f.name, c.name)
			}
			scribbleHeap(h)
			if !sameHeap(first, was) {
				t.Errorf("%s, %s: the answer changed with the argument", f.name, c.name)
			}
		}
	}
}

// TestCompactOfAHeapOfOneList has an argument whose roots and kept ones are a piece of its words: those of an answer are not.
func TestCompactOfAHeapOfOneList(t *testing.T) {
	for _, f := range compactCalls() {
		h := sharedHeap()
		out, want := f.call(h), f.call(cloneHeap(sharedHeap()))
		if !sameHeap(h, sharedHeap()) || !sameHeap(out, want) {
			t.Errorf("%s: a heap of one list is another one", f.name)
		}
		wantApart(t, f.name, append(heapPieces(out), pieceOf(h.Words))...)
	}
	wantPut(t, "one list", sharedHeap(), putHeap(sharedHeap(), nil, 0, 0), 9, -1, -1)

	// The root is a word of the object itself.
	h := laidHeap(false, append(bare(9), aThing(1, 1, 0, ref(4), ref(2000))), bare(2), nil)
	h.Roots, h.Kept = h.Words[8:10], []int64{4}
	want := putHeap(h, []thing{aThing(1, 1, 0, ref(0), ref(6)), aThing(1, 2, 0)}, ref(0), ref(6))
	wantPut(t, "roots that are fields", h, want, 4, -1, 0, 6)
}

// TestListsOfACompactedHeapShareNothing appends to each list of an answer: it must not come to be another one's.
func TestListsOfACompactedHeapShareNothing(t *testing.T) {
	for _, c := range compactHeaps() {
		h, _ := impl.Compact(c.heap)
		was := cloneHeap(h)
		roots, kept, words := append(h.Roots, 5), append(h.Kept, 6), append(h.Words, 7)
		if !sameHeap(h, was) || roots[len(h.Roots)] != 5 || kept[len(h.Kept)] != 6 || words[len(h.Words)] != 7 {
			t.Errorf("%s: two lists share spare room", c.name)
		}
	}
}

// TestCompactsHangOnTheArgumentsAlone asks of one heap, of others, and of the first one again; and of one that is alike, but with spare room.
func TestCompactsHangOnTheArgumentsAlone(t *testing.T) {
	for _, c := range compactHeaps() {
		for _, f := range compactCalls() {
			before := f.call(c.heap)
			wantCompact(t, "mid heap between", midHeap(true), modelCompact(midHeap(true)))
			wantNotPut(t, "zero heap between", impl.Heap{}, -1)
			if !sameHeap(f.call(c.heap), before) || !sameHeap(f.call(roomyHeap(c.heap)), before) {
				t.Errorf("%s, %s: it is another one now", f.name, c.name)
			}
		}
	}
}
