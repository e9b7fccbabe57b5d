package tests

import (
	"testing"

	"loop.example/g00140/impl"
)

// oldLeft has so many words left in the old space, and these young ones, each of which is a root.
func oldLeft(flip bool, left int64, eden []thing) impl.Heap {
	h := laidHeap(flip, filled(2000-left, 1000), eden, nil)
	at := int64(2000)
	for range eden {
		h.Roots = append(h.Roots, ref(at))
		at += 4 + h.Words[at]
	}
	return h
}

// TestRoomOfTheOldSpaceForTheAged has just as many words left as one of age 3 needs, up to four fewer, and up to four more.
func TestRoomOfTheOldSpaceForTheAged(t *testing.T) {
	bothWays(func(flip bool, used int64, s int64) {
		for _, size := range []int64{0, 1, 2, 30, 59, 60} {
			for more := int64(-4); more <= 4; more++ {
				left := 4 + size + more
				h := oldLeft(flip, left, []thing{aThing(5, 1, 2, make([]int64, size)...)})
				name := "size " + digits(size) + ", " + digits(left) + " left"
				if more < 0 {
					wantNotMoved(t, name, h, 1)
					continue
				}
				want := movedHeap(h, append(filled(2000-left, 1000), aThing(5, 1, 3, make([]int64, size)...)), nil, ref(2000-left))
				wantMoved(t, name, h, want, 1, 1)
			}
		}
	})
}

// TestRoomOfTheOldSpaceForTheRest has one that goes there because the survivors have no room.
func TestRoomOfTheOldSpaceForTheRest(t *testing.T) {
	bothWays(func(flip bool, used int64, s int64) {
		for _, size := range []int64{0, 1, 2, 30, 59, 60} {
			for more := int64(-4); more <= 4; more++ {
				left := 4 + size + more
				eden := append(filled(300, 1), aThing(5, 80, 0, make([]int64, size)...))
				h := oldLeft(flip, left, eden)
				name := "size " + digits(size) + ", " + digits(left) + " left"
				if more < 0 {
					wantNotMoved(t, name, h, int64(len(eden)))
					continue
				}
				wantScavenge(t, name, h, modelScavenge(h))
				then, is := impl.Scavenge(h)
				if !is || then.Old != 2000-more || then.Surv != s+300 || impl.Promote(h) != 1 {
					t.Errorf("%s: %v: %s", name, is, heapText(then))
				}
				wantSameGraph(t, name, h, then)
			}
		}
	})
}

// TestAFullOldSpaceWithNothingForIt takes no harm.
func TestAFullOldSpaceWithNothingForIt(t *testing.T) {
	bothWays(func(flip bool, used int64, s int64) {
		h := oldLeft(flip, 0, bare(1, 2))
		want := movedHeap(h, filled(2000, 1000), []thing{aThing(1, 1, 1), aThing(1, 2, 1)}, ref(s), ref(s+4))
		wantMoved(t, "young ones", h, want, 2, 0)
		dead := rooted(oldLeft(flip, 0, []thing{aThing(1, 1, 2), aThing(1, 2, 15)}), ref(0))
		wantMoved(t, "aged ones that nothing comes to", dead, movedHeap(dead, filled(2000, 1000), nil, ref(0)), 0, 0)
	})
}

// TestTheAgedDoNotStayYoung has room enough among the survivors, but none in the old space, be its objects reached or not.
func TestTheAgedDoNotStayYoung(t *testing.T) {
	bothWays(func(flip bool, used int64, s int64) {
		wantNotMoved(t, "a full old space", oldLeft(flip, 0, []thing{aThing(1, 1, 2)}), 1)
		wantNotMoved(t, "a full old space, age 15", oldLeft(flip, 0, []thing{aThing(1, 1, 15)}), 1)
		wantNotMoved(t, "three words left", oldLeft(flip, 3, []thing{aThing(1, 1, 2)}), 1)
		wantNotMoved(t, "the aged behind young ones", oldLeft(flip, 7, []thing{aThing(1, 1, 0), aThing(1, 2, 1), aThing(1, 3, 2, 0, 0, 0, 0)}), 3)
	})
}

// TestALargeOneWithoutRoomSpoilsAll has room for all others, ahead of it and behind it.
func TestALargeOneWithoutRoomSpoilsAll(t *testing.T) {
	small, large := aThing(1, 1, 2), aThing(1, 2, 2, 0, 0, 0)
	other := aThing(1, 3, 2)
	for _, eden := range [][]thing{{large, small}, {small, large}, {small, large, other}} {
		words := int64(4*len(eden) + 3)
		for left := range words {
			wantNotMoved(t, digits(left)+" left", oldLeft(false, left, eden), int64(len(eden)))
		}
		h := oldLeft(true, words, eden)
		then, is := impl.Scavenge(h)
		if !is || then.Old != 2000 || impl.Promote(h) != int64(len(eden)) {
			t.Errorf("%v: %s", is, heapText(then))
		}
	}
}

// fullYoung has a full eden and full survivors of age 0, all of them in a chain, and so many words left in the old space.
func fullYoung(flip bool, left int64) impl.Heap {
	h := laidHeap(flip, filled(2000-left, 1000), filled(600, 1), filled(300, 100))
	var young []int64
	objects, _ := thingsOf(h)
	for _, at := range objects {
		if at >= 2000 {
			young = append(young, at)
		}
	}
	for i, at := range young {
		h.Words[at+4] = ref(young[(i+1)%len(young)])
	}
	return rooted(h, ref(young[0]))
}

// TestAllThatIsYoungLivesOn needs 620 words of the old space: those of 64 words leave 20 of the other survivors' words.
func TestAllThatIsYoungLivesOn(t *testing.T) {
	bothWays(func(flip bool, used int64, s int64) {
		for _, left := range []int64{0, 500, 600, 619} {
			wantNotMoved(t, digits(left)+" left", fullYoung(flip, left), 15)
		}
		for _, left := range []int64{620, 621, 2000} {
			h := fullYoung(flip, left)
			wantScavenge(t, digits(left)+" left", h, modelScavenge(h))
			then, is := impl.Scavenge(h)
			if !is || then.Old != h.Old+620 || then.Surv != s+280 || impl.Young(then) != 15-impl.Promote(h) {
				t.Errorf("%d left: %v: %s", left, is, heapText(then))
			}
			wantSameGraph(t, digits(left)+" left", h, then)
		}
	})
}

// TestAgedAndRestTogether has both kinds: together they need 30 words.
func TestAgedAndRestTogether(t *testing.T) {
	eden := append([]thing{aThing(1, 90, 2, make([]int64, 6)...)}, filled(300, 1)...)
	eden = append(eden, aThing(1, 91, 1, make([]int64, 6)...), aThing(1, 92, 14, make([]int64, 6)...))
	count := int64(len(eden))
	for _, left := range []int64{0, 9, 10, 19, 20, 29} {
		wantNotMoved(t, digits(left)+" left", oldLeft(false, left, eden), count)
	}
	for _, left := range []int64{30, 31, 100} {
		h := oldLeft(false, left, eden)
		then, is := impl.Scavenge(h)
		if !is || then.Old != 2030-left || then.Surv != 3200 || impl.Promote(h) != 3 || impl.Survivors(h) != count {
			t.Errorf("%d left: %v: %s", left, is, heapText(then))
		}
		for i, want := range map[int]int64{0: 3, len(eden) - 2: 2, len(eden) - 1: 15} {
			if _, _, _, age := impl.Header(then, (then.Roots[i]-1)/2); age != want || then.Roots[i] > 4000 {
				t.Errorf("root %d is %d, of the age %d", i, then.Roots[i], age)
			}
		}
	}
}
