package tests

import (
	"slices"
	"testing"

	"loop.example/g00140/impl"
)

// TestAgesOfTheMoved has each age in eden and among the survivors.
func TestAgesOfTheMoved(t *testing.T) {
	then := []int64{1, 2, 3, 4, 5, 6, 7, 8, 9, 10, 11, 12, 13, 14, 15, 15}
	bothWays(func(flip bool, used int64, s int64) {
		for age, next := range then {
			one := []thing{aThing(7, 5, int64(age), num(3))}
			moved := []thing{aThing(7, 5, next, num(3))}
			for at, h := range map[int64]impl.Heap{2000: laidHeap(flip, bare(9), one, nil), used: laidHeap(flip, bare(9), nil, one)} {
				name := "age " + digits(int64(age)) + " at " + digits(at)
				if next < 3 {
					wantMoved(t, name, rooted(h, ref(at)), movedHeap(h, bare(9), moved, ref(s)), 1, 0)
				} else {
					wantMoved(t, name, rooted(h, ref(at)), movedHeap(h, append(bare(9), moved...), nil, ref(4)), 1, 1)
				}
			}
		}
	})
}

// TestAgesOfOldOnesStay has old objects of each age, roots and kept ones among them.
func TestAgesOfOldOnesStay(t *testing.T) {
	bothWays(func(flip bool, used int64, s int64) {
		old := func(w int64) []thing {
			var out []thing
			for age := range int64(16) {
				out = append(out, aThing(3, age+1, age, w))
			}
			return out
		}
		h := ended(laidHeap(flip, old(ref(2000)), bare(20), nil), ref(0), ref(75))
		wantMoved(t, "old ones", h, movedHeap(h, old(ref(s)), []thing{aThing(1, 20, 1)}, ref(0), ref(75)), 1, 0)
	})
}

// TestTenureIsToldByTheNewAge has all ages at once: those that come to 3 are old, in their order.
func TestTenureIsToldByTheNewAge(t *testing.T) {
	var eden []thing
	var roots, old, surv []int64
	for i := range int64(20) {
		age := i * 7 % 16
		eden = append(eden, aThing(1, i+1, age))
		roots = append(roots, ref(2000+4*i))
		if age+1 >= impl.Tenure {
			old = append(old, i+1)
		} else {
			surv = append(surv, i+1)
		}
	}
	wantOrder(t, "all ages", rooted(laidHeap(false, nil, eden, nil), roots...), old, surv)
}

// TestTenuredThreeTimes goes on from scavenge to scavenge: what is there from the start is old then, what came later is old later.
func TestTenuredThreeTimes(t *testing.T) {
	h, first, _ := impl.New(impl.NewHeap(), 1, 2)
	h, _ = impl.AddRoot(h, first)
	ages := [][]int64{{1}, {2, 1}, {3, 2, 1}, {3, 3, 2, 1}, {3, 3, 3, 2, 1}}
	for _, want := range ages {
		was := h
		h, _ = impl.Scavenge(h)
		wantSameGraph(t, "a row", was, h)
		var got []int64
		for _, w := range h.Roots {
			_, _, _, age := impl.Header(h, (w-1)/2)
			got = append(got, age)
			if old := w < 4000; old != (age >= 3) {
				t.Errorf("of the age %d at %d", age, (w-1)/2)
			}
		}
		if !slices.Equal(got, want) {
			t.Fatalf("the ages are %v, not %v", got, want)
		}
		var w int64
		h, w, _ = impl.New(h, 2, 3)
		h, _ = impl.Set(h, w, 1, h.Roots[0])
		h, _ = impl.Set(h, h.Roots[0], 0, w)
		h, _ = impl.AddRoot(h, w)
	}
}

// spareLeft has young objects that leave so many words of the other survivors, and one of so many words behind them.
func spareLeft(flip bool, left int64, words int64) impl.Heap {
	eden := filled(300-left, 1)
	h := laidHeap(flip, bare(90), append(eden, aThing(8, 80, 0, make([]int64, words-4)...)), nil)
	at := int64(2000)
	for range len(eden) + 1 {
		h.Roots = append(h.Roots, ref(at))
		at += 4 + h.Words[at]
	}
	return h
}

// TestRoomOfTheOtherSurvivors has just as many words left as are needed, one fewer and one more.
func TestRoomOfTheOtherSurvivors(t *testing.T) {
	bothWays(func(flip bool, used int64, s int64) {
		for _, words := range []int64{4, 5, 6, 7, 8, 20, 63, 64} {
			for left := words - 4; left <= words+4; left++ {
				h := spareLeft(flip, left, words)
				then, is := impl.Scavenge(h)
				last := then.Roots[len(then.Roots)-1]
				name := digits(words) + " words, " + digits(left) + " left"
				fits := left >= words
				if fits && (last != ref(s+300-left) || then.Surv != s+300-left+words || then.Old != 4 || impl.Promote(h) != 0) {
					t.Errorf("%s: %v: %s", name, is, heapText(then))
				}
				if !fits && (last != ref(4) || then.Surv != s+300-left || then.Old != 4+words || impl.Promote(h) != 1) {
					t.Errorf("%s: %v: %s", name, is, heapText(then))
				}
				wantHeader(t, name, then, (last-1)/2, [4]int64{words - 4, 8, 80, 1})
				wantScavenge(t, name, h, modelScavenge(h))
				wantSameGraph(t, name, h, then)
			}
		}
	})
}

// TestSmallerOnesBehindALargeOne go to the survivors where there is room still.
func TestSmallerOnesBehindALargeOne(t *testing.T) {
	bothWays(func(flip bool, used int64, s int64) {
		// 280 words go to the survivors, then 16 of the 20 that are left, then the last 4; those of 21, 8, 7 and 5 words have no room, and none has in the end.
		sizes := []int64{60, 60, 60, 60, 20, 17, 12, 4, 3, 1, 0, 0, 0}
		var eden []thing
		var roots []int64
		at := int64(2000)
		for i, size := range sizes {
			eden = append(eden, aThing(1, int64(i)+1, 0, make([]int64, size)...))
			roots = append(roots, ref(at))
			at += 4 + size
		}
		h := rooted(laidHeap(flip, nil, eden, nil), roots...)
		wantOrder(t, "smaller ones", h, []int64{6, 8, 9, 10, 12, 13}, []int64{1, 2, 3, 4, 5, 7, 11})
	})
}

// TestSmallestFillTheSurvivors has 75 objects of 4 words, which have room, and more, which have not.
func TestSmallestFillTheSurvivors(t *testing.T) {
	bothWays(func(flip bool, used int64, s int64) {
		for _, n := range []int64{74, 75, 76, 77, 150} {
			var eden []thing
			var old []thing
			for i := range n {
				if i%60 == 0 {
					old = append(old, aThing(1, 500+i, 0, make([]int64, 60)...))
				}
				eden = append(eden, aThing(1, i+1, 0))
				old[len(old)-1].fields[i%60] = ref(2000 + 4*i)
			}
			h := ended(laidHeap(flip, old, eden, nil))
			var surv, promoted []int64
			for i := range n {
				if i < 75 {
					surv = append(surv, i+1)
				} else {
					promoted = append(promoted, i+1)
				}
			}
			wantOrder(t, digits(n)+" of 4 words", h, promoted, surv)
		}
	})
}

// TestRoomOfTheSurvivorsInUseDoesNotCount has these full, and of the others none is used at first.
func TestRoomOfTheSurvivorsInUseDoesNotCount(t *testing.T) {
	bothWays(func(flip bool, used int64, s int64) {
		surv := smallest(75, 1)
		var old []thing
		for i := range surv {
			surv[i].age = 1
		}
		for k := range 2 {
			row := aThing(1, int64(100+k), 0, make([]int64, 60)...)
			for i := range min(60, 75-60*k) {
				row.fields[i] = ref(used + int64(240*k+4*i))
			}
			old = append(old, row)
		}
		h := ended(laidHeap(flip, old, nil, surv))
		then, is := impl.Scavenge(h)
		if !is || then.Surv != s+300 || then.Old != 128 || impl.Survivors(h) != 75 || impl.Promote(h) != 0 {
			t.Errorf("%v: %s", is, heapText(then))
		}
		wantSameGraph(t, "full survivors", h, then)
	})
}
