package tests

import (
	"slices"
	"testing"

	"loop.example/g00140/impl"
)

// scavengeCalls are the chapter's functions.
func scavengeCalls() []heapCall {
	return []heapCall{
		{"Scavenge", func(h impl.Heap) impl.Heap {
			out, _ := impl.Scavenge(h)
			return out
		}},
		{"Survivors", func(h impl.Heap) impl.Heap { return impl.Heap{Hash: impl.Survivors(h)} }},
		{"Promote", func(h impl.Heap) impl.Heap { return impl.Heap{Hash: impl.Promote(h)} }},
	}
}

func scavengeHeaps() []namedHeap {
	n := numbers(98)
	out := slices.Concat(memoryHeaps(), placedHeaps(), []namedHeap{
		{"full eden", edenLeft(0)}, {"20 roots", manyRoots(true, 20)}, {"large ones", largeHeap(true)},
		{"no room", oldLeft(false, 3, []thing{aThing(1, 1, 0), aThing(1, 2, 2)})}, {"all live on", fullYoung(true, 620)}, {"not all have room", fullYoung(false, 619)},
	})
	for range 40 {
		out = append(out, namedHeap{"drawn young", drawnYoung(&n)})
	}
	return out
}

func TestScavengeArgumentsStay(t *testing.T) {
	for _, c := range scavengeHeaps() {
		for _, f := range scavengeCalls() {
			h := roomyHeap(c.heap)
			out := f.call(h)
			wantSameHeap(t, f.name+", "+c.name, h, c.heap)
			wantApart(t, f.name+", "+c.name, slices.Concat(heapPieces(h), heapPieces(out))...)
			scribbleHeap(out)
			wantSameHeap(t, f.name+", scribbled, "+c.name, h, c.heap)
		}
	}
}

func TestScavengedHeapsAreNewMemory(t *testing.T) {
	for _, c := range scavengeHeaps() {
		h := roomyHeap(c.heap)
		first, _ := impl.Scavenge(h)
		second, _ := impl.Scavenge(h)
		was := cloneHeap(first)
		wantApart(t, "two answers of "+c.name, slices.Concat(heapPieces(first), heapPieces(second))...)
		scribbleHeap(second)
		if !sameHeap(first, was) {
			t.Errorf("%s: two answers share memory", c.name)
		}
		scribbleHeap(h)
		if !sameHeap(first, was) {
			t.Errorf("%s: the answer changed with the argument", c.name)
		}
	}
}

// TestScavengeOfAHeapOfOneList has an argument whose roots and kept ones are a piece of its words: those of an answer are not.
func TestScavengeOfAHeapOfOneList(t *testing.T) {
	for _, f := range scavengeCalls() {
		h := sharedHeap()
		out, want := f.call(h), f.call(cloneHeap(sharedHeap()))
		if !sameHeap(h, sharedHeap()) || !sameHeap(out, want) {
			t.Errorf("%s: a heap of one list is another one", f.name)
		}
		wantApart(t, f.name, append(heapPieces(out), pieceOf(h.Words))...)
	}
	want := movedHeap(sharedHeap(), []thing{aThing(1, 1, 0, ref(2900))}, []thing{aThing(2, 2, 1)}, 0, 0)
	wantMoved(t, "one list", sharedHeap(), want, 1, 0)
}

// TestListsOfAScavengedHeapShareNothing appends to each list of an answer: it must not come to be another one's.
func TestListsOfAScavengedHeapShareNothing(t *testing.T) {
	for _, c := range scavengeHeaps() {
		h, _ := impl.Scavenge(c.heap)
		was := cloneHeap(h)
		roots, kept, words := append(h.Roots, 5), append(h.Kept, 6), append(h.Words, 7)
		if !sameHeap(h, was) || roots[len(h.Roots)] != 5 || kept[len(h.Kept)] != 6 || words[len(h.Words)] != 7 {
			t.Errorf("%s: two lists share spare room", c.name)
		}
	}
}

// TestScavengesHangOnTheArgumentsAlone asks of one heap, of others, and of the first one again; and of one that is alike, but with spare room.
func TestScavengesHangOnTheArgumentsAlone(t *testing.T) {
	for _, c := range scavengeHeaps() {
		for _, f := range scavengeCalls() {
			before := f.call(c.heap)
			wantScavenge(t, "mid heap between", midHeap(true), modelScavenge(midHeap(true)))
			wantNotMoved(t, "zero heap between", impl.Heap{}, -1)
			if !sameHeap(f.call(c.heap), before) || !sameHeap(f.call(roomyHeap(c.heap)), before) {
				t.Errorf("%s, %s: it is another one now", f.name, c.name)
			}
		}
	}
}
