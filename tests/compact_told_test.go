package tests

import (
	"slices"
	"testing"

	"loop.example/g00140/impl"
)

// wantGarbage fails unless so many words are garbage, and these are all that Reached does not tell.
func wantGarbage(t *testing.T, name string, h impl.Heap, want int64) {
	t.Helper()
	if got := impl.Garbage(h); got != want {
		t.Errorf("%s: %d words are garbage, not %d", name, got, want)
	}
	if used := wordsUsed(h); impl.Reached(h)+want != used {
		t.Errorf("%s: %d words are reached and %d are garbage, of %d", name, impl.Reached(h), want, used)
	}
}

// wordsUsed are the words of all objects of a right heap.
func wordsUsed(h impl.Heap) int64 {
	surv := h.Surv - 2600
	if h.Flip {
		surv = h.Surv - 2900
	}
	return h.Old + h.Eden - 2000 + surv
}

func TestGarbageOfEachSpace(t *testing.T) {
	bothWays(func(flip bool, used int64, s int64) {
		h := laidHeap(flip, filled(100, 1), filled(80, 100), filled(70, 200))
		wantGarbage(t, "no root", h, 250)
		wantGarbage(t, "numbers", rooted(h, num(0), num(2000), num(used), 2, 4000), 250)
		wantGarbage(t, "an old one", rooted(h, ref(0)), 250-64)
		wantGarbage(t, "an old one that is smaller", rooted(h, ref(64)), 250-36)
		wantGarbage(t, "one of eden", rooted(h, ref(2064)), 250-16)
		wantGarbage(t, "a survivor", rooted(h, ref(used)), 250-64)
		wantGarbage(t, "one of each", rooted(h, ref(0), ref(2000), ref(used)), 36+16+6)
		wantGarbage(t, "one, told often", rooted(h, ref(0), ref(0), ref(0)), 250-64)
		wantGarbage(t, "all", rooted(h, ref(0), ref(64), ref(2000), ref(2064), ref(used), ref(used+64)), 0)
		wantGarbage(t, "no object", laidHeap(flip, nil, nil, nil), 0)
		wantGarbage(t, "all is full", laidHeap(flip, filled(2000, 1), filled(600, 100), filled(300, 200)), 2900)
	})
}

// TestGarbageWhereThereIsNoRoom has more that is reached than the old space holds.
func TestGarbageWhereThereIsNoRoom(t *testing.T) {
	for _, flip := range []bool{false, true} {
		for _, dead := range []int64{0, 4, 5, 64, 100, 200} {
			h := chained(flip, 2000, 200, 100)
			h.Eden = lay(h.Words, h.Eden, filled(dead, 300))
			h.Surv = lay(h.Words, h.Surv, filled(dead, 400))
			h.Hash = 500
			name := digits(2*dead) + " words of garbage"
			wantGarbage(t, name, h, 2*dead)
			wantNotPut(t, name, h, 2*dead)
		}
	}
}

// TestGarbageOfDrawnHeaps asks where Compact says true, and where it says false.
func TestGarbageOfDrawnHeaps(t *testing.T) {
	n := numbers(102)
	fits, full, none := 0, 0, 0
	for range 600 {
		h := drawnYoung(&n)
		wantGarbage(t, "drawn", h, wordsUsed(h)-impl.Reached(h))
		then, is := impl.Compact(h)
		if !is {
			full++
			continue
		}
		fits++
		wantGarbage(t, "drawn, compacted", then, 0)
		if impl.Garbage(h) == 0 {
			none++
		}
	}
	if fits < 200 || full < 15 || none < 5 || none > 300 {
		t.Errorf("%d with room, %d without, %d without garbage: too few of a kind", fits, full, none)
	}
}

// TestMovesTellWhereCompactPuts finds each object again by its hash.
func TestMovesTellWhereCompactPuts(t *testing.T) {
	n := numbers(103)
	moved, stayed, gone := 0, 0, 0
	for range 400 {
		h := drawnYoung(&n)
		objects, moves := impl.Objects(h), impl.Moves(h)
		then, is := impl.Compact(h)
		if !is {
			if len(moves) != 0 {
				t.Fatalf("Compact says false, and Moves are %v", moves)
			}
			continue
		}
		if len(moves) != len(objects) {
			t.Fatalf("%d objects have %d moves", len(objects), len(moves))
		}
		left := impl.Objects(then)
		for i, at := range objects {
			k := slices.IndexFunc(left, func(to int64) bool { return then.Words[to+2] == h.Words[at+2] })
			switch {
			case k < 0 && moves[i] == -1:
				gone++
			case k < 0 || moves[i] != left[k]:
				t.Fatalf("the object at %d moves to %d: %s", at, moves[i], heapText(then))
			case moves[i] == at:
				stayed++
			default:
				moved++
			}
		}
		told := slices.DeleteFunc(slices.Clone(moves), func(to int64) bool { return to == -1 })
		if !slices.Equal(told, left) {
			t.Fatalf("they move to %v, and lie at %v", told, left)
		}
	}
	if moved < 1000 || stayed < 500 || gone < 1000 {
		t.Errorf("%d moved, %d stayed, %d are gone: too few of a kind", moved, stayed, gone)
	}
}

// TestMovesGoDown has no object that lies higher than it did, and none that passes another.
func TestMovesGoDown(t *testing.T) {
	n := numbers(104)
	for range 300 {
		h := drawnYoung(&n)
		last := int64(-1)
		for i, to := range impl.Moves(h) {
			if to == -1 {
				continue
			}
			if at := impl.Objects(h)[i]; to > at || to <= last {
				t.Fatalf("the object at %d moves to %d, behind %d", at, to, last)
			}
			last = to
		}
	}
}

// TestWrongHeapsAreNotCompacted has one for every rule that a heap may break.
func TestWrongHeapsAreNotCompacted(t *testing.T) {
	wantNotPut(t, "zero heap", impl.Heap{}, -1)
	for _, c := range wrongHeaps() {
		wantNotPut(t, c.name, c.heap, -1)
	}
}

// TestWrongHeapsWithoutRoomAreNotCompacted are wrong, and have too many words besides.
func TestWrongHeapsWithoutRoomAreNotCompacted(t *testing.T) {
	full := chained(true, 2000, 600, 300)
	wantNotPut(t, "right", full, 0)
	for _, change := range []func(h *impl.Heap){
		func(h *impl.Heap) { h.Hash = 0 }, func(h *impl.Heap) { h.Kept = []int64{0} }, func(h *impl.Heap) { h.Flip = false },
		func(h *impl.Heap) { h.Roots[0] = ref(1) }, func(h *impl.Heap) { h.Words[2] = 100 }, func(h *impl.Heap) { h.Words = h.Words[:3199] },
	} {
		h := cloneHeap(full)
		change(&h)
		wantNotPut(t, "wrong", h, -1)
	}
}

// TestHeapsAtTheirLimitsCompacted has full spaces, 20 roots, and the greatest of all numbers.
func TestHeapsAtTheirLimitsCompacted(t *testing.T) {
	for _, c := range slices.Concat(placedHeaps(), []namedHeap{
		{"full eden", edenLeft(0)}, {"20 roots", manyRoots(true, 20)}, {"none kept", keptHeap(false)},
		{"large ones", largeHeap(true)}, {"large ones, the other survivors", largeHeap(false)}, {"all live on", fullYoung(true, 620)},
	}) {
		objects := impl.Objects(c.heap)
		if !impl.HeapOk(c.heap) {
			t.Errorf("%s: the test's own heap is not right", c.name)
		}
		wantCompact(t, c.name, c.heap, modelCompact(c.heap))
		var roots []int64
		for i := 0; i < len(objects) && len(roots) < 20; i += 1 + len(objects)/20 {
			roots = append(roots, ref(objects[i]))
		}
		h := rooted(cloneHeap(c.heap), roots...)
		want := modelCompact(h)
		wantCompact(t, c.name+", with roots", h, want)
		if want.is {
			wantPromised(t, c.name+", with roots", h, want.heap)
		}
	}
}
