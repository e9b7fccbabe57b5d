package tests

import (
	"slices"
	"testing"

	"loop.example/g00140/impl"
)

// compacted is all that the chapter's functions tell of a heap.
type compacted struct {
	heap    impl.Heap
	is      bool
	garbage int64
	moves   []int64
}

// modelCompact says the chapter again by lists alone: who is reached, where each goes, and what every word is then.
func modelCompact(h impl.Heap) compacted {
	objects, is := modelObjects(h)
	if !is {
		return compacted{garbage: -1}
	}
	reached := modelReached(h, objects)
	var moves []int64
	var end, garbage int64
	for i, at := range objects {
		words := 4 + h.Words[at]
		if !reached[i] {
			moves = append(moves, -1)
			garbage += words
			continue
		}
		moves = append(moves, end)
		end += words
	}
	if end > 2000 {
		return compacted{garbage: garbage}
	}
	return compacted{modelPut(h, objects, moves, end), true, garbage, moves}
}

// modelReached goes through all objects again and again, until none is found any more.
func modelReached(h impl.Heap, objects []int64) []bool {
	reached := make([]bool, len(objects))
	found := func(words []int64) bool {
		more := false
		for i, at := range objects {
			if !reached[i] && slices.Contains(words, ref(at)) {
				reached[i], more = true, true
			}
		}
		return more
	}
	for more := found(h.Roots); more; {
		more = false
		for i, at := range objects {
			if reached[i] && found(h.Words[at+4:at+4+h.Words[at]]) {
				more = true
			}
		}
	}
	return reached
}

// modelPut lays each object that goes somewhere down there.
func modelPut(h impl.Heap, objects []int64, moves []int64, end int64) impl.Heap {
	told := func(words []int64) []int64 {
		out := slices.Clone(words)
		for i, w := range words {
			if w%2 != 0 {
				out[i] = ref(moves[slices.Index(objects, (w-1)/2)])
			}
		}
		return out
	}
	then := impl.Heap{Words: make([]int64, 3200), Roots: told(h.Roots), Old: end, Eden: 2000, Surv: 2600, Hash: h.Hash}
	for i, at := range objects {
		if moves[i] >= 0 {
			head, fields := h.Words[at:at+4], h.Words[at+4:at+4+h.Words[at]]
			lay(then.Words, moves[i], []thing{aThing(head[1], head[2], head[3], told(fields)...)})
		}
	}
	return then
}

// wantCompact fails unless the three functions tell just this.
func wantCompact(t *testing.T, name string, h impl.Heap, want compacted) {
	t.Helper()
	defer noPanic(t, name)
	got, is := impl.Compact(h)
	if is != want.is || !sameHeap(got, want.heap) {
		t.Errorf("%s: Compact says %v: %s; not %v: %s", name, is, heapText(got), want.is, heapText(want.heap))
	}
	if n := impl.Garbage(h); n != want.garbage {
		t.Errorf("%s: Garbage is %d, not %d", name, n, want.garbage)
	}
	if list := impl.Moves(h); !slices.Equal(list, want.moves) {
		t.Errorf("%s: Moves are %v, not %v", name, list, want.moves)
	}
}

// wantPut fails unless the compacted heap is this one, with so much garbage ahead and these moves, and keeps the promise; it answers that heap.
func wantPut(t *testing.T, name string, h impl.Heap, want impl.Heap, garbage int64, moves ...int64) impl.Heap {
	t.Helper()
	if !impl.HeapOk(h) || !impl.HeapOk(want) {
		t.Fatalf("%s: the test's own heaps are not right: %s; %s", name, heapText(h), heapText(want))
	}
	wantCompact(t, name, h, compacted{want, true, garbage, moves})
	got, _ := impl.Compact(h)
	wantPromised(t, name, h, got)
	return got
}

// wantNotPut fails unless Compact says false, and so much is garbage (-1: the heap is wrong).
func wantNotPut(t *testing.T, name string, h impl.Heap, garbage int64) {
	t.Helper()
	wantCompact(t, name, h, compacted{garbage: garbage})
}

// wantPromised fails unless the compacted heap is right, has the graph that it had, and no garbage, and compacted again is itself.
func wantPromised(t *testing.T, name string, h impl.Heap, then impl.Heap) {
	t.Helper()
	wantSameGraph(t, name, h, then)
	if then.Eden != 2000 || then.Surv != 2600 || then.Flip || len(then.Kept) != 0 || then.Hash != h.Hash || then.Old != impl.Reached(h) {
		t.Fatalf("%s: compacted, with %d words reached, it is %s", name, impl.Reached(h), heapText(then))
	}
	if slices.ContainsFunc(then.Words[then.Old:], func(w int64) bool { return w != 0 }) {
		t.Fatalf("%s: compacted, there is something behind %d", name, then.Old)
	}
	if n := impl.Garbage(then); n != 0 {
		t.Fatalf("%s: compacted, it has %d words of garbage", name, n)
	}
	again, is := impl.Compact(then)
	if !is || !sameHeap(again, then) {
		t.Fatalf("%s: compacted again it says %v: %s, not %s", name, is, heapText(again), heapText(then))
	}
	if moves := impl.Moves(then); !slices.Equal(moves, impl.Objects(then)) {
		t.Fatalf("%s: compacted again they move to %v", name, moves)
	}
}

// putHeap is what is compacted: old objects alone, the first survivors, and the same Hash.
func putHeap(was impl.Heap, old []thing, roots ...int64) impl.Heap {
	h := rooted(laidHeap(false, old, nil, nil), roots...)
	h.Hash = was.Hash
	return h
}

// chained has so many words of objects in each space (0, or 4 and more), each object of which has the next one of its space; the first ones are roots.
func chained(flip bool, old int64, eden int64, surv int64) impl.Heap {
	h := laidHeap(flip, filled(old, 1), filled(eden, 100), filled(surv, 200))
	objects, _ := thingsOf(h)
	for i, at := range objects {
		first := i == 0 || objects[i-1] < 2000 && at >= 2000 || objects[i-1] < 2600 && at >= 2600
		if first {
			h.Roots = append(h.Roots, ref(at))
		} else {
			h.Words[objects[i-1]+4] = ref(at)
		}
	}
	return h
}
