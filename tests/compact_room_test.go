package tests

import (
	"slices"
	"testing"

	"loop.example/g00140/impl"
)

// TestReachedThatJustFit has just as many words as the old space, up to six fewer, and up to six more, from each choice of spaces.
func TestReachedThatJustFit(t *testing.T) {
	for _, flip := range []bool{false, true} {
		for words := int64(1994); words <= 2006; words++ {
			for _, young := range [][2]int64{{600, 300}, {600, 0}, {0, 300}, {100, 100}, {64, 0}, {0, 64}, {11, 13}, {590, 7}} {
				h := chained(flip, words-young[0]-young[1], young[0], young[1])
				name := digits(words) + " words, " + digits(young[0]) + " of eden, " + digits(young[1]) + " of survivors"
				if impl.Reached(h) != words {
					t.Fatalf("%s: the test's own heap has %d", name, impl.Reached(h))
				}
				if words > 2000 {
					wantNotPut(t, name, h, 0)
					continue
				}
				want := modelCompact(h)
				wantCompact(t, name, h, want)
				wantPromised(t, name, h, want.heap)
				if !want.is || want.heap.Old != words {
					t.Errorf("%s: %s", name, heapText(want.heap))
				}
			}
		}
	}
}

// TestAFullOldSpaceAndOneMore has all of the old space reached, and young ones that are reached or are not.
func TestAFullOldSpaceAndOneMore(t *testing.T) {
	bothWays(func(flip bool, used int64, s int64) {
		full := chained(flip, 2000, 0, 0)
		places := impl.Objects(full)
		wantPut(t, "nothing young", full, putHeap(full, thingsAt(full, places), ref(0)), 0, places...)

		young := chained(flip, 2000, 4, 10)
		garbage := rooted(young, ref(0), num(2000))
		wantPut(t, "young ones that are not reached", garbage, putHeap(young, thingsAt(full, places), ref(0), num(2000)), 14, append(slices.Clone(places), -1, -1)...)
		wantNotPut(t, "one of eden is reached", rooted(young, ref(0), ref(2000)), 10)
		wantNotPut(t, "a survivor is reached", rooted(young, ref(used), ref(0)), 4)
		wantNotPut(t, "both are reached", young, 0)
		wantPut(t, "young ones alone are reached", rooted(young, ref(used), ref(2000)), putHeap(young, thingsAt(young, []int64{2000, used}), ref(4), ref(0)), 2000, append(slices.Repeat([]int64{-1}, len(places)), 0, 4)...)
	})
}

// thingsAt are the objects there, with their fields as they are.
func thingsAt(h impl.Heap, places []int64) []thing {
	var out []thing
	for _, at := range places {
		head := h.Words[at : at+4]
		out = append(out, aThing(head[1], head[2], head[3], h.Words[at+4:at+4+head[0]]...))
	}
	return out
}

// TestGarbageMakesRoom has a full old space with garbage at its end, and as many young words that are reached, some fewer, and some more.
func TestGarbageMakesRoom(t *testing.T) {
	for _, flip := range []bool{false, true} {
		for more := int64(-3); more <= 3; more++ {
			for _, dead := range []int64{30, 64, 500} {
				h := rooted(chained(flip, 2000-dead, dead+more, 0), ref(2000), ref(0))
				h.Old = lay(h.Words, h.Old, filled(dead, 300))
				h.Hash = 400
				name := digits(dead) + " are garbage, " + digits(dead+more) + " are young"
				if more > 0 {
					wantNotPut(t, name, h, dead)
					continue
				}
				want := modelCompact(h)
				wantCompact(t, name, h, want)
				wantPromised(t, name, h, want.heap)
				if want.garbage != dead || want.heap.Old != 2000+more {
					t.Errorf("%s: %d: %s", name, want.garbage, heapText(want.heap))
				}
			}
		}
	}
}

// TestAllIsReachedAndFull has 2900 words that are reached.
func TestAllIsReachedAndFull(t *testing.T) {
	bothWays(func(flip bool, used int64, s int64) {
		h := chained(flip, 2000, 600, 300)
		wantNotPut(t, "all is full", h, 0)
		wantNotPut(t, "eden is not reached, but survivors are", rooted(h, ref(0), ref(used)), 600)
		wantNotPut(t, "survivors are not reached, but eden is", rooted(h, ref(0), ref(2000)), 300)
		then, is := impl.Compact(rooted(h, ref(used), ref(2000)))
		if !is || then.Old != 900 || impl.Garbage(rooted(h, ref(used), ref(2000))) != 2000 {
			t.Errorf("the old space is not reached: %v: %s", is, heapText(then))
		}
		wantPromised(t, "the old space is not reached", rooted(h, ref(used), ref(2000)), then)
	})
}

// TestManySmallOnes has up to 394 objects without a field, and others that have them: all together 1998 words.
func TestManySmallOnes(t *testing.T) {
	for _, small := range []int64{0, 1, 60, 61, 300, 394} {
		h := smallOnes(small)
		if !impl.HeapOk(h) || impl.Reached(h) != h.Old {
			t.Fatalf("%d small ones: the test's own heap is not right", small)
		}
		wantPut(t, digits(small)+" small ones", h, cloneHeap(h), 0, impl.Objects(h)...)
		h.Roots = h.Roots[len(h.Roots)/2:]
		want := modelCompact(h)
		wantCompact(t, digits(small)+" small ones, half of the roots", h, want)
		wantPromised(t, digits(small)+" small ones, half of the roots", h, want.heap)
	}
}

// smallOnes are so many objects without a field behind others of up to 60 fields that have them, each of which is a root.
func smallOnes(small int64) impl.Heap {
	first := small + 4*((small+59)/60)
	var old []thing
	var roots []int64
	for k, at := int64(0), int64(0); k < small; k += 60 {
		var fields []int64
		for i := k; i < min(k+60, small); i++ {
			fields = append(fields, ref(first+4*i))
		}
		old = append(old, aThing(1, 1000+k, 0, fields...))
		roots = append(roots, ref(at))
		at += 4 + int64(len(fields))
	}
	return rooted(laidHeap(false, append(old, smallest(int(small), 1)...), nil, nil), roots...)
}
