package tests

import (
	"slices"
	"testing"

	"loop.example/g00140/impl"
)

// TestReferrersOfEachObject has objects in all spaces.
func TestReferrersOfEachObject(t *testing.T) {
	bothWays(func(flip bool, used int64, s int64) {
		h := midHeap(flip)
		for w, want := range map[int64][]int64{
			ref(0): {2000}, ref(6): {10}, ref(10): {10}, ref(17): {used}, ref(2000): {0}, ref(2005): {used}, ref(used): {17}, ref(used + 6): nil,
		} {
			wantReferrers(t, "mid heap", h, w, want...)
		}
	})
}

// TestReferrersRise has some in all spaces, of which each has the word once, some have it often, and itself among them.
func TestReferrersRise(t *testing.T) {
	bothWays(func(flip bool, used int64, s int64) {
		all := []int64{0, 7, 14, 2000, 2007, 2014, used, used + 7, used + 14}
		for _, at := range all {
			for choice := range 512 {
				h := sown(flip, 0, 0, 0)
				var want []int64
				for i, holder := range all {
					if choice>>i&1 == 1 {
						want = append(want, holder)
						for k := range int64(1 + (i+choice)%3) {
							h.Words[holder+6-k] = ref(at)
						}
					}
				}
				wantReferrers(t, "choice "+digits(int64(choice)), ended(h), ref(at), want...)
			}
		}
	})
}

// TestReferrersAreToldOnce has the word in all 60 fields, and in each one of them alone.
func TestReferrersAreToldOnce(t *testing.T) {
	for _, flip := range []bool{false, true} {
		ends := largeOnes(flip)
		for _, w := range []int64{ref(ends[0]), ref(ends[2]), ref(ends[5])} {
			h := largeHeap(flip)
			for _, at := range ends {
				for i := range int64(60) {
					h.Words[at+4+i] = w
				}
			}
			wantReferrers(t, "all fields", ended(h), w, ends...)
			for _, at := range ends {
				for i := range int64(60) {
					one := largeHeap(flip)
					one.Words[at+4+i] = w
					wantReferrers(t, "field "+digits(i), ended(one), w, at)
				}
			}
		}
	}
}

// TestRootsAreNoReferrers has an object that 20 roots mean, and no field.
func TestRootsAreNoReferrers(t *testing.T) {
	bothWays(func(flip bool, used int64, s int64) {
		h := laidHeap(flip, bare(1, 2), bare(3, 4), []thing{aThing(1, 5, 0, ref(4))})
		for _, at := range []int64{0, 2000, 2004, used} {
			wantReferrers(t, "roots alone", rooted(h, slices.Repeat([]int64{ref(at)}, 20)...), ref(at))
		}
		wantReferrers(t, "roots and a field", rooted(h, slices.Repeat([]int64{ref(4)}, 20)...), ref(4), used)
		wantReferrers(t, "a field and no root", h, ref(4), used)
	})
}

// TestReferrersOfAll has 394 small objects that others have, and one that nearly all have.
func TestReferrersOfAll(t *testing.T) {
	h := smallOnes(394)
	for i, at := range impl.Objects(h) {
		want := []int64{int64(i-7) / 60 * 64}
		if i < 7 {
			want = nil
		}
		wantReferrers(t, "small ones", h, ref(at), want...)
	}
	var old []thing
	for i := range int64(400) {
		old = append(old, aThing(0, i+1, 0, ref(i%2*1000)))
	}
	h = laidHeap(true, old, nil, nil)
	var even, odd []int64
	for i := int64(0); i < 2000; i += 10 {
		even, odd = append(even, i), append(odd, i+5)
	}
	wantReferrers(t, "every second one", h, ref(0), even...)
	wantReferrers(t, "every other one", h, ref(1000), odd...)
	h, _ = impl.Forward(h, ref(1000), ref(0))
	wantReferrers(t, "all", h, ref(0), impl.Objects(h)...)
	wantReferrers(t, "all", h, ref(1000))
}

// TestReferrersOfEveryWord asks for each word from below 0 to beyond the addresses, the numbers among them.
func TestReferrersOfEveryWord(t *testing.T) {
	for _, flip := range []bool{false, true} {
		h := midHeap(flip)
		for w := int64(-20); w < 6420; w++ {
			wantReferrers(t, "mid heap", h, w, modelReferrers(h, w)...)
		}
	}
}

// TestReferrersOfNumbers has numbers that fields and roots have: they are no such words.
func TestReferrersOfNumbers(t *testing.T) {
	for _, w := range []int64{0, 2, -2, 8, 4000, 4002, 5200, -14, 2000000000, -2000000000} {
		h := ended(laidHeap(false, []thing{aThing(1, 1, 0, w, w)}, []thing{aThing(1, 2, 0, w)}, nil), w)
		wantReferrers(t, "a number", h, w)
	}
}

// TestReferrersOfWrongWords has no words, and addresses at which no object stands.
func TestReferrersOfWrongWords(t *testing.T) {
	for _, w := range slices.Concat(wrongWords(), farWords()) {
		wantReferrers(t, "mid heap", midHeap(false), w)
	}
	for _, c := range placedHeaps()[:2] {
		for _, w := range slices.Concat(farWords(), []int64{0, 1, 3, 4001, 5201, 5801, 6399, 6401}) {
			wantReferrers(t, c.name, c.heap, w)
		}
	}
}

// TestReferrersAreWhatGetTells holds them against every field that Get tells.
func TestReferrersAreWhatGetTells(t *testing.T) {
	n := numbers(121)
	some, none := 0, 0
	for range 60 {
		h := drawnYoung(&n)
		objects := impl.Objects(h)
		if len(objects) > 40 {
			continue
		}
		told := map[int64][]int64{}
		for _, at := range objects {
			for i := range h.Words[at] {
				w, _ := impl.Get(h, ref(at), i)
				if list := told[w]; w%2 != 0 && (len(list) == 0 || list[len(list)-1] != at) {
					told[w] = append(list, at)
				}
			}
		}
		for _, at := range objects {
			wantReferrers(t, "drawn", h, ref(at), told[ref(at)]...)
			if len(told[ref(at)]) > 0 {
				some++
			} else {
				none++
			}
		}
	}
	if some < 50 || none < 50 {
		t.Errorf("%d objects with referrers and %d without are too few of a kind", some, none)
	}
}
