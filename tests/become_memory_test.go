package tests

import (
	"slices"
	"testing"

	"loop.example/g00140/impl"
)

// becomeCalls are calls of the chapter's functions that some heaps take and others refuse.
func becomeCalls() []heapCall {
	forward := func(a int64, b int64) func(impl.Heap) impl.Heap {
		return func(h impl.Heap) impl.Heap {
			out, _ := impl.Forward(h, a, b)
			return out
		}
	}
	exchange := func(a int64, b int64) func(impl.Heap) impl.Heap {
		return func(h impl.Heap) impl.Heap {
			out, _ := impl.Exchange(h, a, b)
			return out
		}
	}
	referrers := func(a int64) func(impl.Heap) impl.Heap {
		return func(h impl.Heap) impl.Heap { return impl.Heap{Roots: impl.Referrers(h, a)} }
	}
	return []heapCall{
		{"Forward of an old one to a young one", forward(ref(0), ref(2000))}, {"Forward of a young one to an old one", forward(ref(2000), ref(0))},
		{"Forward of an old one to itself", forward(ref(0), ref(0))}, {"Forward of a young one to itself", forward(ref(2000), ref(2000))}, {"Forward to an old one", forward(ref(10), ref(6))},
		{"Forward to no object", forward(ref(0), ref(1))}, {"Forward of a number", forward(num(5), ref(0))}, {"Forward of no word", forward(-1, ref(0))},
		{"Exchange of an old one and a young one", exchange(ref(0), ref(2000))}, {"Exchange of two old ones", exchange(ref(10), ref(6))}, {"Exchange of a kept one", exchange(ref(17), ref(2005))},
		{"Exchange of an old one with itself", exchange(ref(0), ref(0))}, {"Exchange of a young one with itself", exchange(ref(2000), ref(2000))}, {"Exchange with a survivor", exchange(ref(0), ref(2600))},
		{"Exchange with no object", exchange(ref(0), ref(1))}, {"Exchange of numbers", exchange(num(5), num(6))}, {"Exchange with no word", exchange(ref(0), -1)},
		{"Referrers of an old one", referrers(ref(0))}, {"Referrers of a young one", referrers(ref(2000))}, {"Referrers of a survivor", referrers(ref(2600))}, {"Referrers of a number", referrers(num(5))}, {"Referrers of no word", referrers(-1)},
	}
}

func becomeHeaps() []namedHeap {
	n := numbers(130)
	out := slices.Concat(memoryHeaps(), placedHeaps(), []namedHeap{
		{"full eden", edenLeft(0)}, {"20 roots", manyRoots(true, 20)}, {"large ones", largeHeap(true)}, {"all is full", chained(true, 2000, 600, 300)},
		{"an old one in all places", sown(false, 255, ref(0), ref(2000))}, {"a young one in all places", sown(true, 255, ref(2000), ref(2000))}, {"no root", sown(false, 63, ref(0), ref(2600))},
	})
	for range 20 {
		out = append(out, namedHeap{"drawn", drawnSmall(&n)})
	}
	return out
}

func TestBecomeArgumentsStay(t *testing.T) {
	for _, c := range becomeHeaps() {
		for _, f := range becomeCalls() {
			h := roomyHeap(c.heap)
			out := f.call(h)
			wantSameHeap(t, f.name+", "+c.name, h, c.heap)
			wantApart(t, f.name+", "+c.name, slices.Concat(heapPieces(h), heapPieces(out))...)
			scribbleHeap(out)
			wantSameHeap(t, f.name+", scribbled, "+c.name, h, c.heap)
		}
	}
}

func TestBecomeAnswersAreNewMemory(t *testing.T) {
	for _, c := range becomeHeaps() {
		for _, f := range becomeCalls() {
			h := roomyHeap(c.heap)
			first, second := f.call(h), f.call(h)
			was := cloneHeap(first)
			wantApart(t, "two answers of "+f.name+", "+c.name, slices.Concat(heapPieces(first), heapPieces(second))...)
			scribbleHeap(second)
			if !sameHeap(first, was) {
				t.Errorf("%s, %s: two answers share memory", f.name, c.name)
			}
			scribbleHeap(h)
			if !sameHeap(first, was) {
				t.Errorf("%s, %s: the answer changed with the argument", f.name, c.name)
			}
		}
	}
}

// TestBecomeOfAHeapOfOneList has arguments whose roots and kept ones are a piece of its words: those of an answer are not.
func TestBecomeOfAHeapOfOneList(t *testing.T) {
	for _, f := range becomeCalls() {
		h := sharedHeap()
		out, want := f.call(h), f.call(cloneHeap(sharedHeap()))
		if !sameHeap(h, sharedHeap()) || !sameHeap(out, want) {
			t.Errorf("%s: a heap of one list is another one", f.name)
		}
		wantApart(t, f.name, append(heapPieces(out), pieceOf(h.Words))...)
	}

	// The roots are the fields of the object itself: each is changed once, not twice.
	shared := func(first int64, second int64) impl.Heap {
		h := laidHeap(false, append(bare(9), aThing(1, 1, 0, first, second)), bare(2), nil)
		h.Roots, h.Kept = h.Words[8:10], modelKept(h)
		return h
	}
	a, b := ref(4), ref(2000)
	wantExchange(t, "roots that are fields", shared(a, b), a, b, shared(b, a))
	wantForward(t, "roots that are fields", shared(a, b), a, b, shared(b, b))
	wantForward(t, "roots that are fields", shared(a, b), b, a, shared(a, a))
	h := shared(a, b)
	impl.Exchange(h, a, b)
	if !sameHeap(h, shared(a, b)) {
		t.Error("an argument was changed")
	}
}

// TestListsOfWhatBecameShareNothing appends to each list of an answer: it must not come to be another one's.
func TestListsOfWhatBecameShareNothing(t *testing.T) {
	for _, c := range becomeHeaps() {
		for _, f := range becomeCalls() {
			h := f.call(c.heap)
			was := cloneHeap(h)
			roots, kept, words := append(h.Roots, 5), append(h.Kept, 6), append(h.Words, 7)
			if !sameHeap(h, was) || roots[len(h.Roots)] != 5 || kept[len(h.Kept)] != 6 || words[len(h.Words)] != 7 {
				t.Errorf("%s, %s: two lists share spare room", f.name, c.name)
			}
		}
	}
}

// TestBecomesHangOnTheArgumentsAlone asks of one heap, of others, and of the first one again; and of one that is alike, but with spare room.
func TestBecomesHangOnTheArgumentsAlone(t *testing.T) {
	for _, c := range becomeHeaps() {
		for _, f := range becomeCalls() {
			before := f.call(c.heap)
			wantBecome(t, "mid heap between", midHeap(true), ref(10), ref(2900), modelBecome(midHeap(true), ref(10), ref(2900)))
			wantNotBecome(t, "zero heap between", impl.Heap{}, ref(0), ref(0))
			if !sameHeap(f.call(c.heap), before) || !sameHeap(f.call(roomyHeap(c.heap)), before) {
				t.Errorf("%s, %s: it is another one now", f.name, c.name)
			}
		}
	}
}
