package tests

import (
	"slices"
	"testing"

	"loop.example/g00140/impl"
)

// TestCompactInBareNumbers has every word of the answer written down.
func TestCompactInBareNumbers(t *testing.T) {
	for _, flip := range []bool{false, true} {
		h, is := impl.Compact(midHeap(flip))
		if !is || h.Old != 26 || h.Eden != 2000 || h.Surv != 2600 || h.Flip || h.Hash != 13 {
			t.Fatalf("%v: %s", is, heapText(h))
		}
		words := make([]int64, 3200)
		copy(words, []int64{2, 9, 4, 0, 35, -14, 0, 0, 1, 15, 3, 99, 7, 3, 13, 4002, 21, 1, 5, 8, 0, 1, 0, 4, 11, 2})
		if !slices.Equal(h.Words, words) || !slices.Equal(h.Roots, []int64{21, 2000000000, 35, 45, 0}) || len(h.Kept) != 0 {
			t.Error(heapText(h), h.Words[:26])
		}
		if n := impl.Garbage(midHeap(flip)); n != 15 {
			t.Error(n)
		}
		if moves := impl.Moves(midHeap(flip)); !slices.Equal(moves, []int64{0, 6, 10, -1, 17, -1, -1, 22}) {
			t.Error(moves)
		}
	}
}

func TestCompactOfAMidHeap(t *testing.T) {
	bothWays(func(flip bool, used int64, s int64) {
		old := []thing{aThing(9, 4, 0, ref(17), num(-7)), aThing(0, 1, 15), aThing(99, 7, 3, ref(6), num(2001), ref(10)), aThing(5, 8, 0, ref(0)), aThing(4, 11, 2)}
		want := putHeap(midHeap(flip), old, ref(10), num(1000000000), ref(17), ref(22), num(0))
		wantPut(t, "mid heap", midHeap(flip), want, 15, 0, 6, 10, -1, 17, -1, -1, 22)

		// Root 2 alone comes to 2000, and from there to 0 and back.
		h := rooted(midHeap(flip), ref(2000))
		old = []thing{aThing(9, 4, 0, ref(6), num(-7)), aThing(5, 8, 0, ref(0))}
		wantPut(t, "mid heap, one root", h, putHeap(h, old, ref(6)), 30, 0, -1, -1, -1, 6, -1, -1, -1)

		// 17 comes to the survivor, and that one to 2005 and back.
		h = rooted(midHeap(flip), num(5), ref(17))
		old = []thing{aThing(1, 2, 4, ref(9)), aThing(3, 10, 0), aThing(2, 12, 1, ref(5), ref(0))}
		wantPut(t, "mid heap, another root", h, putHeap(h, old, num(5), ref(0)), 26, -1, -1, -1, 0, -1, 5, 9, -1)
	})
}

func TestCompactWithNoObject(t *testing.T) {
	for _, flip := range []bool{false, true} {
		for _, roots := range [][]int64{nil, {0}, {num(5), num(2000), num(-1000000000), num(1000000000)}, make([]int64, 20)} {
			for _, hash := range []int64{1, 2, 1000000000} {
				h := rooted(laidHeap(flip, nil, nil, nil), roots...)
				h.Hash = hash
				wantPut(t, "no object", h, putHeap(h, nil, roots...), 0)
			}
		}
	}
}

// TestCompactWithNothingReached has objects that have each other, and themselves, in all spaces; no root is one of them.
func TestCompactWithNothingReached(t *testing.T) {
	bothWays(func(flip bool, used int64, s int64) {
		old := []thing{aThing(1, 1, 0, ref(0)), aThing(2, 2, 0, ref(2000), ref(used))}
		eden := []thing{aThing(3, 3, 0, ref(2005)), aThing(4, 4, 0, ref(2000), ref(5), ref(used))}
		surv := []thing{aThing(5, 5, 0, ref(0))}
		h := laidHeap(flip, old, eden, surv)
		for _, roots := range [][]int64{nil, {0}, {num(0), num(5), num(2000), num(used)}, {2, 10, 12, 4000, 4002}} {
			wantPut(t, "nothing is reached", ended(h, roots...), putHeap(h, nil, roots...), 28, -1, -1, -1, -1, -1)
		}
		wantPut(t, "old ones", laidHeap(flip, old[:1], nil, nil), putHeap(laidHeap(flip, old[:1], nil, nil), nil), 5, -1)
		full := laidHeap(flip, filled(2000, 1), filled(600, 100), filled(300, 200))
		gone := slices.Repeat([]int64{-1}, len(impl.Objects(full)))
		wantPut(t, "all is full", full, putHeap(full, nil), 2900, gone...)
	})
}

// TestCompactWithAllReached has them in one space, and in all of them.
func TestCompactWithAllReached(t *testing.T) {
	bothWays(func(flip bool, used int64, s int64) {
		old := []thing{aThing(1, 1, 7, ref(5)), aThing(2, 2, 1, ref(0), num(3))}
		only := rooted(laidHeap(flip, old, nil, nil), ref(5))
		wantPut(t, "old ones", only, putHeap(only, old, ref(5)), 0, 0, 5)

		eden := []thing{aThing(1, 1, 7, ref(2005)), aThing(2, 2, 1, ref(2000), num(3))}
		only = rooted(laidHeap(flip, nil, eden, nil), ref(2005))
		wantPut(t, "eden", only, putHeap(only, old, ref(5)), 0, 0, 5)

		surv := []thing{aThing(1, 1, 7, ref(used+5)), aThing(2, 2, 1, ref(used), num(3))}
		only = rooted(laidHeap(flip, nil, nil, surv), ref(used+5))
		wantPut(t, "survivors", only, putHeap(only, old, ref(5)), 0, 0, 5)

		all := laidHeap(flip, []thing{aThing(1, 1, 0, ref(2000)), aThing(2, 2, 0, ref(5))}, []thing{aThing(3, 3, 0, ref(used))}, []thing{aThing(4, 4, 0, num(1), ref(5))})
		all = ended(all, ref(0))
		then := []thing{aThing(1, 1, 0, ref(10)), aThing(2, 2, 0, ref(5)), aThing(3, 3, 0, ref(15)), aThing(4, 4, 0, num(1), ref(5))}
		wantPut(t, "all spaces", all, putHeap(all, then, ref(0)), 0, 0, 5, 10, 15)
	})
}

// TestReachedByRootsAlone has roots in another order than the addresses, some of them alike, and numbers between them.
func TestReachedByRootsAlone(t *testing.T) {
	bothWays(func(flip bool, used int64, s int64) {
		old := []thing{aThing(1, 1, 0, num(3)), aThing(2, 2, 0), aThing(3, 3, 0)}
		eden := []thing{aThing(4, 4, 0), aThing(5, 5, 0, num(2000)), aThing(6, 6, 0)}
		surv := []thing{aThing(7, 7, 1), aThing(8, 8, 1, num(-9), num(used))}
		h := rooted(laidHeap(flip, old, eden, surv), ref(used+4), num(2000), ref(2004), ref(5), ref(2004), ref(9), num(7), ref(used+4), ref(2009))
		left := []thing{aThing(2, 2, 0), aThing(3, 3, 0), aThing(5, 5, 0, num(2000)), aThing(6, 6, 0), aThing(8, 8, 1, num(-9), num(used))}
		want := putHeap(h, left, ref(17), num(2000), ref(8), ref(0), ref(8), ref(4), num(7), ref(17), ref(13))
		wantPut(t, "by roots", h, want, 13, -1, 0, 4, -1, 8, 13, -1, 17)
	})
}

// TestReachedByFieldsAlone has one root, and from there a way that goes up and down through all spaces.
func TestReachedByFieldsAlone(t *testing.T) {
	bothWays(func(flip bool, used int64, s int64) {
		old := []thing{aThing(1, 1, 0, ref(2004)), aThing(2, 2, 0), aThing(3, 3, 0, ref(used+5), num(9))}
		eden := []thing{aThing(4, 4, 0), aThing(5, 5, 0, num(1), ref(9)), aThing(6, 6, 0)}
		surv := []thing{aThing(7, 7, 0, ref(0)), aThing(8, 8, 0, ref(2010), num(2), num(3))}
		h := ended(laidHeap(flip, old, eden, surv), ref(used))
		// 7 has 1, that one 5, that one 3, that one 8, that one 6.
		left := []thing{aThing(1, 1, 0, ref(11)), aThing(3, 3, 0, ref(26), num(9)), aThing(5, 5, 0, num(1), ref(5)), aThing(6, 6, 0), aThing(7, 7, 0, ref(0)), aThing(8, 8, 0, ref(17), num(2), num(3))}
		wantPut(t, "by fields", h, putHeap(h, left, ref(21)), 8, 0, -1, 5, -1, 11, 17, 21, 26)
	})
}

// TestReachedByTheLastOfAnObject has an object of each size of which one field alone is an address.
func TestReachedByTheLastOfAnObject(t *testing.T) {
	for size := int64(1); size <= 60; size++ {
		for _, i := range []int64{0, size / 2, size - 1} {
			fields := make([]int64, size)
			fields[i] = ref(2004)
			h := ended(laidHeap(false, bare(9), []thing{aThing(2, 2, 0), aThing(3, 3, 0)}, []thing{aThing(1, 1, 0, fields...)}), ref(2600))
			then := slices.Clone(fields)
			then[i] = ref(0)
			want := putHeap(h, []thing{aThing(3, 3, 0), aThing(1, 1, 0, then...)}, ref(4))
			wantPut(t, "field "+digits(i)+" of "+digits(size), h, want, 8, -1, -1, 0, 4)
		}
	}
}

// TestWhatGarbageHasIsGarbage has ones that are come to from what is not reached alone, in Kept or not.
func TestWhatGarbageHasIsGarbage(t *testing.T) {
	bothWays(func(flip bool, used int64, s int64) {
		old := []thing{aThing(1, 1, 0, ref(2000), ref(used)), aThing(2, 2, 0, num(0)), aThing(3, 3, 0, ref(2004))}
		eden := []thing{aThing(4, 4, 0), aThing(5, 5, 0, ref(6))}
		surv := []thing{aThing(6, 6, 0, ref(6))}
		h := ended(laidHeap(flip, old, eden, surv), num(0), ref(6))
		if !slices.Equal(h.Kept, []int64{0, 11}) {
			t.Fatal(h.Kept)
		}
		wantPut(t, "garbage that is kept", h, putHeap(h, []thing{aThing(2, 2, 0, num(0))}, num(0), ref(0)), 25, -1, 0, -1, -1, -1, -1)
	})
}

// TestReachedInCircles has an object that has itself, two that have each other, and a circle through all spaces.
func TestReachedInCircles(t *testing.T) {
	bothWays(func(flip bool, used int64, s int64) {
		self := rooted(laidHeap(flip, bare(9), []thing{aThing(1, 1, 0, ref(2000), ref(2000))}, nil), ref(2000))
		wantPut(t, "itself", self, putHeap(self, []thing{aThing(1, 1, 0, ref(0), ref(0))}, ref(0)), 4, -1, 0)

		two := rooted(laidHeap(flip, bare(9), []thing{aThing(1, 1, 0, ref(used))}, []thing{aThing(2, 2, 0, ref(2000))}), ref(used), ref(2000))
		wantPut(t, "each other", two, putHeap(two, []thing{aThing(1, 1, 0, ref(5)), aThing(2, 2, 0, ref(0))}, ref(5), ref(0)), 4, -1, 0, 5)

		old := []thing{aThing(8, 8, 0), aThing(1, 1, 0, ref(2004)), aThing(7, 7, 0, ref(4))}
		eden := []thing{aThing(6, 6, 0), aThing(2, 2, 0, ref(used)), aThing(5, 5, 0, ref(2004))}
		all := ended(laidHeap(flip, old, eden, []thing{aThing(3, 3, 0, ref(4)), aThing(4, 4, 0, ref(used))}))
		left := []thing{aThing(1, 1, 0, ref(5)), aThing(2, 2, 0, ref(10)), aThing(3, 3, 0, ref(0))}
		moves := []int64{-1, 0, -1, -1, 5, -1, 10, -1}
		for i, root := range []int64{ref(4), ref(2004), ref(used)} {
			h := rooted(all, root)
			wantPut(t, "all spaces", h, putHeap(h, left, ref(int64(5*i))), 23, moves...)
		}
	})
}

// TestNumbersStayWhenCompacted has numbers whose words lie among those of addresses, and which are addresses themselves.
func TestNumbersStayWhenCompacted(t *testing.T) {
	bothWays(func(flip bool, used int64, s int64) {
		for _, w := range []int64{0, 2, 8, 10, 4000, 4002, 4008, 4010, 5200, 5202, 5800, 5802, 6398, num(4), num(9), num(2004), num(4009), 2000000000, -2000000000, -2, -4010} {
			h := ended(laidHeap(flip, append(bare(9), aThing(1, 1, 0, w, ref(2004))), append(bare(8), aThing(2, 2, 0, w, w)), nil), w, ref(4), w)
			left := []thing{aThing(1, 1, 0, w, ref(6)), aThing(2, 2, 0, w, w)}
			wantPut(t, "number "+digits(w), h, putHeap(h, left, w, ref(0), w), 8, -1, 0, -1, 6)
		}
	})
}

// TestHeadersStayWhenCompacted has the least and the greatest of all that a header tells, in each of the spaces.
func TestHeadersStayWhenCompacted(t *testing.T) {
	bothWays(func(flip bool, used int64, s int64) {
		for _, class := range []int64{0, 1, 50, 99} {
			for age := range int64(16) {
				for _, hash := range []int64{1, 500, 999999999} {
					one := []thing{aThing(class, hash, age, num(-7))}
					for i, at := range []int64{0, 2000, used} {
						var parts [3][]thing
						parts[i] = one
						h := rooted(laidHeap(flip, parts[0], parts[1], parts[2]), ref(at))
						wantPut(t, "a header", h, putHeap(h, one, ref(0)), 0, 0)
					}
				}
			}
		}
	})
}

// TestHashStaysWhenCompacted has a Hash far above those of the objects, of which the greatest is gone.
func TestHashStaysWhenCompacted(t *testing.T) {
	for _, hash := range []int64{4, 5, 999999999, 1000000000} {
		h := rooted(laidHeap(true, bare(3), bare(1), bare(2)), ref(2000))
		h.Hash = hash
		wantPut(t, "hash "+digits(hash), h, putHeap(h, bare(1), ref(0)), 8, -1, 0, -1)
	}
}

// TestKeptIsEmptyWhenCompacted has old objects in Kept that are reached: what they have is old then.
func TestKeptIsEmptyWhenCompacted(t *testing.T) {
	bothWays(func(flip bool, used int64, s int64) {
		old := []thing{aThing(1, 1, 0, ref(2000)), aThing(1, 2, 0, ref(used)), aThing(1, 3, 0, ref(2000), ref(used))}
		h := ended(laidHeap(flip, old, bare(4), bare(5)), ref(0), ref(5), ref(10))
		if !slices.Equal(h.Kept, []int64{0, 5, 10}) {
			t.Fatal(h.Kept)
		}
		left := []thing{aThing(1, 1, 0, ref(16)), aThing(1, 2, 0, ref(20)), aThing(1, 3, 0, ref(16), ref(20)), aThing(1, 4, 0), aThing(1, 5, 0)}
		wantPut(t, "three are kept", h, putHeap(h, left, ref(0), ref(5), ref(10)), 0, 0, 5, 10, 16, 20)
	})
}
