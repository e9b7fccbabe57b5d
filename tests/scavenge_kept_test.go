package tests

import (
	"slices"
	"testing"

	"loop.example/g00140/impl"
)

// wantKept fails unless Kept is this when it is scavenged; it answers that heap.
func wantKept(t *testing.T, name string, h impl.Heap, kept ...int64) impl.Heap {
	t.Helper()
	then, is := impl.Scavenge(h)
	if !is || !slices.Equal(then.Kept, kept) {
		t.Fatalf("%s: Scavenge of %v says %v: %v are kept, not %v", name, h.Kept, is, then.Kept, kept)
	}
	wantSameGraph(t, name, h, then)
	return then
}

// TestKeptOfOldOnes has an old object of whose young ones none, one or both go to the old space.
func TestKeptOfOldOnes(t *testing.T) {
	bothWays(func(flip bool, used int64, s int64) {
		pair := func(one int64, other int64) impl.Heap {
			old := []thing{aThing(1, 1, 0), aThing(1, 2, 0, ref(2000), num(5), ref(used))}
			return ended(laidHeap(flip, old, []thing{aThing(1, 3, one)}, []thing{aThing(1, 4, other)}))
		}
		wantKept(t, "none is old then", pair(0, 0), 4)
		wantKept(t, "none is old then, once more", pair(1, 1), 4)
		wantKept(t, "the first is old then", pair(2, 1), 4)
		wantKept(t, "the last is old then", pair(1, 2), 4)
		wantKept(t, "both are old then", pair(2, 2))
		wantKept(t, "both are old then, of great ages", pair(14, 15))
	})
}

// TestKeptOfOnesThatComeToBeOld has a moved object that is old then, and has what is young, old, or itself.
func TestKeptOfOnesThatComeToBeOld(t *testing.T) {
	bothWays(func(flip bool, used int64, s int64) {
		with := func(fields ...int64) impl.Heap {
			eden := []thing{aThing(1, 3, 0), aThing(1, 4, 2), aThing(1, 5, 2, fields...)}
			return ended(laidHeap(flip, bare(1), eden, []thing{aThing(1, 6, 0, ref(2004), ref(0))}), ref(2008))
		}
		wantKept(t, "no field", with())
		wantKept(t, "numbers", with(num(2000), num(4001), 6398))
		wantKept(t, "itself", with(ref(2008), ref(2008)))
		wantKept(t, "an old one", with(ref(0)))
		wantKept(t, "one that comes to be old too", with(ref(2004), ref(0)))
		wantKept(t, "a young one", with(ref(2000)), 4)
		wantKept(t, "a survivor", with(num(1), ref(used)), 4)
		wantKept(t, "a young one among others", with(ref(0), ref(2004), ref(2000), ref(2008), num(3)), 4)
	})
}

// TestKeptOfOnesThatStayYoung has young objects with old and young ones: they are never kept.
func TestKeptOfOnesThatStayYoung(t *testing.T) {
	bothWays(func(flip bool, used int64, s int64) {
		eden := []thing{aThing(1, 3, 0, ref(0), ref(2006)), aThing(1, 4, 1, ref(2000), ref(used), ref(2013)), aThing(1, 5, 2, num(3))}
		h := ended(laidHeap(flip, bare(1), eden, []thing{aThing(1, 6, 0, ref(2000))}), ref(2000))
		then := wantKept(t, "young ones", h)
		if then.Surv != s+18 || then.Old != 9 {
			t.Error(heapText(then))
		}
	})
}

// TestKeptRisesWhenScavenged has ones that stay, one that leaves, and ones that come, in all parts of the old space.
func TestKeptRisesWhenScavenged(t *testing.T) {
	bothWays(func(flip bool, used int64, s int64) {
		old := []thing{aThing(1, 1, 0, ref(2000)), aThing(1, 2, 0, ref(2010)), aThing(1, 3, 0, num(7)), aThing(1, 4, 0, ref(2000), ref(2010))}
		eden := []thing{aThing(1, 5, 0, num(1)), aThing(1, 6, 3, ref(2000)), aThing(1, 7, 2, ref(2005)), aThing(1, 8, 2, ref(2000))}
		h := ended(laidHeap(flip, old, eden, nil), ref(2015))
		if !slices.Equal(h.Kept, []int64{0, 5, 15}) {
			t.Fatal(h.Kept)
		}
		// 8 goes to 21, 7 to 26 and 6 to 31; only 7 has no young one then, as 2 has not.
		then := wantKept(t, "all parts", h, 0, 15, 21, 31)
		wantKept(t, "all parts, again", then, 0, 15, 21, 31)
	})
}

// TestKeptOfOldOnesThatAreNotReached keeps what they have alive, until it is old itself.
func TestKeptOfOldOnesThatAreNotReached(t *testing.T) {
	bothWays(func(flip bool, used int64, s int64) {
		h := ended(laidHeap(flip, []thing{aThing(1, 1, 0, ref(2000))}, []thing{aThing(1, 2, 0, ref(2005)), aThing(1, 3, 0)}, nil), num(1))
		h = wantKept(t, "once", h, 0)
		h = wantKept(t, "twice", h, 0)
		h = wantKept(t, "three times", h)
		if h.Old != 14 || impl.Young(h) != 0 || impl.Reached(h) != 0 {
			t.Error(heapText(h))
		}
	})
}

// TestKeptByARestThatIsOld has an object without room among the survivors, whose own young ones have room there.
func TestKeptByARestThatIsOld(t *testing.T) {
	bothWays(func(flip bool, used int64, s int64) {
		eden := append(filled(290, 1), aThing(1, 50, 0, ref(2301), 0, 0, 0, 0, 0, 0), aThing(1, 51, 1, ref(2306)), aThing(1, 52, 0, num(1), ref(2290)))
		h := laidHeap(flip, bare(60), eden, nil)
		at := int64(2000)
		for range len(eden) - 2 {
			h.Roots = append(h.Roots, ref(at))
			at += 4 + h.Words[at]
		}
		// The one at 2290 needs 11 words and has 10: it goes to 4. The next one needs 5, and the last one 6, of which 5 are left.
		then := wantKept(t, "a rest", h, 4)
		if then.Old != 4+11+6 || then.Surv != s+295 || impl.Promote(h) != 2 {
			t.Error(heapText(then))
		}
	})
}
