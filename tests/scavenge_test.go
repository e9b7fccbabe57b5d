package tests

import (
	"slices"
	"testing"

	"loop.example/g00140/impl"
)

// TestScavengeInBareNumbers has every word of the answer written down.
func TestScavengeInBareNumbers(t *testing.T) {
	h, is := impl.Scavenge(midHeap(false))
	if !is || h.Old != 26 || h.Eden != 2000 || h.Surv != 2915 || !h.Flip || h.Hash != 13 {
		t.Fatalf("%v: %s", is, heapText(h))
	}
	words := make([]int64, 3200)
	copy(words, []int64{2, 9, 4, 0, 5801, -14, 0, 0, 1, 15, 3, 99, 7, 3, 13, 4002, 21, 1, 1, 2, 4, 5811, 0, 4, 11, 3})
	copy(words[2900:], []int64{1, 5, 8, 1, 1, 2, 2, 12, 2, 5823, 35, 0, 3, 10, 1})
	if !slices.Equal(h.Words, words) || !slices.Equal(h.Roots, []int64{21, 2000000000, 5801, 45, 0}) || !slices.Equal(h.Kept, []int64{0, 17}) {
		t.Error(heapText(h), h.Words[:26], h.Words[2900:2915])
	}
	if n, old := impl.Survivors(midHeap(false)), impl.Promote(midHeap(false)); n != 4 || old != 1 {
		t.Error(n, old)
	}
}

func TestScavengeOfAMidHeap(t *testing.T) {
	bothWays(func(flip bool, used int64, s int64) {
		old := []thing{aThing(9, 4, 0, ref(s), num(-7)), aThing(0, 1, 15), aThing(99, 7, 3, ref(6), num(2001), ref(10)), aThing(1, 2, 4, ref(s+5)), aThing(4, 11, 3)}
		surv := []thing{aThing(5, 8, 1, ref(0)), aThing(2, 12, 2, ref(s+11), ref(17)), aThing(3, 10, 1)}
		want := movedHeap(midHeap(flip), old, surv, ref(10), num(1000000000), ref(s), ref(22), num(0))
		wantMoved(t, "mid heap", midHeap(flip), want, 4, 1)
	})
}

// TestScavengeWithNothingYoung turns to the other survivors, and leaves all else as it was.
func TestScavengeWithNothingYoung(t *testing.T) {
	bothWays(func(flip bool, used int64, s int64) {
		old := []thing{aThing(1, 5, 0, ref(6), ref(0)), aThing(2, 3, 15, ref(0)), aThing(3, 9, 2), aThing(4, 1, 7, num(2000), num(4001))}
		for _, h := range []impl.Heap{
			laidHeap(flip, nil, nil, nil),
			rooted(laidHeap(flip, nil, nil, nil), num(5), num(2000), num(-1000000000)),
			laidHeap(flip, old, nil, nil),
			rooted(laidHeap(flip, old, nil, nil), ref(11), ref(0), num(4001), ref(0)),
			rooted(laidHeap(flip, filled(2000, 1), nil, nil), ref(64)),
		} {
			want := cloneHeap(h)
			want.Flip, want.Surv = !flip, s
			then := wantMoved(t, "nothing young", h, want, 0, 0)
			back := cloneHeap(h)
			wantMoved(t, "nothing young, twice", then, back, 0, 0)
		}
	})
}

// TestScavengeKeepsHash has a Hash far above those of the objects.
func TestScavengeKeepsHash(t *testing.T) {
	for _, hash := range []int64{2, 3, 999999999, 1000000000} {
		h := rooted(laidHeap(false, nil, []thing{aThing(1, 1, 0)}, nil), ref(2000))
		h.Hash = hash
		wantMoved(t, "hash "+digits(hash), h, movedHeap(h, nil, []thing{aThing(1, 1, 1)}, ref(2900)), 1, 0)
	}
}

// TestYoungOnesThatNothingComesTo are gone, whatever they have in their fields.
func TestYoungOnesThatNothingComesTo(t *testing.T) {
	bothWays(func(flip bool, used int64, s int64) {
		old := []thing{aThing(1, 1, 0, ref(0))}
		eden := []thing{aThing(2, 2, 0, ref(2005)), aThing(3, 3, 0, ref(2000)), aThing(4, 4, 9, ref(0), ref(used)), aThing(5, 5, 0, ref(2016))}
		surv := []thing{aThing(6, 6, 1, ref(2010)), aThing(7, 7, 15)}
		none := rooted(laidHeap(flip, old, eden, surv), ref(0), num(2000), num(used))
		wantMoved(t, "none is come to", none, movedHeap(none, old, nil, ref(0), num(2000), num(used)), 0, 0)
		rootless := laidHeap(flip, old, eden, surv)
		wantMoved(t, "no root", rootless, movedHeap(rootless, old, nil), 0, 0)
		one := rooted(laidHeap(flip, old, eden, surv), ref(used+5))
		wantMoved(t, "one is come to", one, movedHeap(one, append(old, aThing(7, 7, 15)), nil, ref(5)), 1, 1)
		some := rooted(laidHeap(flip, old, eden, surv), ref(2000))
		left := []thing{aThing(2, 2, 1, ref(s+5)), aThing(3, 3, 1, ref(s))}
		wantMoved(t, "a circle is come to", some, movedHeap(some, old, left, ref(s)), 2, 0)
	})
}

// TestYoungOnesByRootsAlone has roots to eden and survivors, some of them alike, and others between them.
func TestYoungOnesByRootsAlone(t *testing.T) {
	bothWays(func(flip bool, used int64, s int64) {
		old := []thing{aThing(1, 1, 0, num(3))}
		eden := []thing{aThing(2, 2, 0), aThing(3, 3, 0, num(2000)), aThing(4, 4, 0, ref(0))}
		surv := []thing{aThing(5, 5, 1), aThing(6, 6, 1, num(-9), num(used))}
		h := rooted(laidHeap(flip, old, eden, surv), ref(2004), num(2000), ref(used+4), ref(0), ref(2004), ref(2009), num(7), ref(used+4))
		left := []thing{aThing(3, 3, 1, num(2000)), aThing(6, 6, 2, num(-9), num(used)), aThing(4, 4, 1, ref(0))}
		want := movedHeap(h, old, left, ref(s), num(2000), ref(s+5), ref(0), ref(s), ref(s+11), num(7), ref(s+5))
		wantMoved(t, "by roots", h, want, 3, 0)
	})
}

// TestYoungOnesByKeptAlone has no root: what an old object in Kept has lives on, be that one reached or not.
func TestYoungOnesByKeptAlone(t *testing.T) {
	bothWays(func(flip bool, used int64, s int64) {
		old := []thing{aThing(1, 1, 0, num(2000), ref(2000), ref(0)), aThing(2, 2, 0, ref(0)), aThing(3, 3, 0, ref(used), ref(2000), ref(used))}
		eden := []thing{aThing(4, 4, 0, num(1)), aThing(5, 5, 0)}
		surv := []thing{aThing(6, 6, 1)}
		h := ended(laidHeap(flip, old, eden, surv))
		then := []thing{aThing(1, 1, 0, num(2000), ref(s), ref(0)), aThing(2, 2, 0, ref(0)), aThing(3, 3, 0, ref(s+5), ref(s), ref(s+5))}
		left := []thing{aThing(4, 4, 1, num(1)), aThing(6, 6, 2)}
		wantMoved(t, "by kept ones", h, movedHeap(h, then, left), 2, 0)
		wantMoved(t, "by kept ones that are reached", ended(h, ref(12)), movedHeap(h, then, left, ref(12)), 2, 0)
	})
}

// TestYoungOnesByYoungOnesAlone has one root, and from there a way through eden and survivors.
func TestYoungOnesByYoungOnesAlone(t *testing.T) {
	bothWays(func(flip bool, used int64, s int64) {
		eden := []thing{aThing(1, 1, 0, ref(used+5)), aThing(2, 2, 0, num(8), ref(2011)), aThing(3, 3, 0)}
		surv := []thing{aThing(4, 4, 0, ref(2005)), aThing(5, 5, 0, ref(used))}
		h := rooted(laidHeap(flip, nil, eden, surv), ref(2000))
		left := []thing{aThing(1, 1, 1, ref(s+5)), aThing(5, 5, 1, ref(s+10)), aThing(4, 4, 1, ref(s+15)), aThing(2, 2, 1, num(8), ref(s+21)), aThing(3, 3, 1)}
		wantMoved(t, "a chain", h, movedHeap(h, nil, left, ref(s)), 5, 0)
	})
}

// TestYoungOnesInCircles has an object that has itself, two that have each other, and circles through old ones.
func TestYoungOnesInCircles(t *testing.T) {
	bothWays(func(flip bool, used int64, s int64) {
		self := rooted(laidHeap(flip, nil, []thing{aThing(1, 1, 0, ref(2000), ref(2000))}, nil), ref(2000))
		wantMoved(t, "itself", self, movedHeap(self, nil, []thing{aThing(1, 1, 1, ref(s), ref(s))}, ref(s)), 1, 0)

		two := rooted(laidHeap(flip, nil, []thing{aThing(1, 1, 0, ref(used))}, []thing{aThing(2, 2, 0, ref(2000))}), ref(used), ref(2000))
		wantMoved(t, "each other", two, movedHeap(two, nil, []thing{aThing(2, 2, 1, ref(s+5)), aThing(1, 1, 1, ref(s))}, ref(s), ref(s+5)), 2, 0)

		old := ended(laidHeap(flip, []thing{aThing(1, 1, 0, ref(2000))}, []thing{aThing(2, 2, 0, ref(0))}, nil), ref(0))
		wantMoved(t, "an old one", old, movedHeap(old, []thing{aThing(1, 1, 0, ref(s))}, []thing{aThing(2, 2, 1, ref(0))}, ref(0)), 1, 0)

		parts := rooted(laidHeap(flip, nil, []thing{aThing(1, 1, 2, ref(2006), ref(2000)), aThing(2, 2, 0, ref(2000))}, nil), ref(2006))
		wantMoved(t, "one that goes to the old space", parts, movedHeap(parts, []thing{aThing(1, 1, 3, ref(s), ref(0))}, []thing{aThing(2, 2, 1, ref(0))}, ref(s)), 2, 1)
	})
}

// TestWhatIsComeToOftenIsCopiedOnce has an object whose address is in roots, kept ones, young ones and itself.
func TestWhatIsComeToOftenIsCopiedOnce(t *testing.T) {
	bothWays(func(flip bool, used int64, s int64) {
		for _, age := range []int64{0, 2} {
			a, b := ref(2000), ref(s)
			old := func(w int64) []thing { return []thing{aThing(1, 1, 0, w, w), aThing(2, 2, 0, w, num(2000), w)} }
			one := func(age int64, w int64) thing { return aThing(3, 3, age, w, num(4001), w) }
			two := func(age int64, w int64) thing { return aThing(4, 4, age, w, w) }
			h := ended(laidHeap(flip, old(a), []thing{one(age, a)}, []thing{two(0, a)}), a, ref(used), a, num(2000), a)
			want := movedHeap(h, old(b), []thing{one(1, b), two(1, b)}, b, ref(s+7), b, num(2000), b)
			if age == 2 {
				b = ref(13)
				want = movedHeap(h, append(old(b), one(3, b)), []thing{two(1, b)}, b, ref(s), b, num(2000), b)
			}
			wantMoved(t, "come to often, age "+digits(age), h, want, 2, age/2)
		}
	})
}

// TestNumbersAreNotFollowed has numbers whose words lie among those of young addresses, and which are young addresses themselves.
func TestNumbersAreNotFollowed(t *testing.T) {
	bothWays(func(flip bool, used int64, s int64) {
		for _, w := range []int64{4000, 4002, 5200, 5202, 5800, 5802, 6398, num(2000), num(2600), num(2900), num(4001), 2000000000, -4000, -4002} {
			old := []thing{aThing(1, 1, 0, w, ref(2000))}
			young := []thing{aThing(2, 2, 0, w, w)}
			h := ended(laidHeap(flip, old, young, []thing{aThing(3, 3, 0)}), w)
			want := movedHeap(h, []thing{aThing(1, 1, 0, w, ref(s))}, []thing{aThing(2, 2, 1, w, w)}, w)
			wantMoved(t, "number "+digits(w), h, want, 1, 0)
		}
	})
}

// TestSizesOfMovedObjects has a young object of each size, with fields that are all unlike.
func TestSizesOfMovedObjects(t *testing.T) {
	bothWays(func(flip bool, used int64, s int64) {
		for size := range int64(61) {
			fields := make([]int64, size)
			for i := range fields {
				fields[i] = num(int64(i)*7 - 100)
			}
			for age := range int64(3) {
				h := rooted(laidHeap(flip, nil, filled(20, 1), []thing{aThing(99, 50, age, fields...)}), ref(used))
				want := movedHeap(h, nil, []thing{aThing(99, 50, age+1, fields...)}, ref(s))
				if age == 2 {
					want = movedHeap(h, []thing{aThing(99, 50, 3, fields...)}, nil, ref(0))
				}
				wantMoved(t, "size "+digits(size)+", age "+digits(age), h, want, 1, age/2)
			}
		}
	})
}
