package tests

import (
	"slices"
	"testing"

	"loop.example/g00140/impl"
)

// TestWrongWordsBecomeNothing has numbers, no words, and addresses inside an object, at a header's other words, behind the used parts and of no space, as either of the two, and as both.
func TestWrongWordsBecomeNothing(t *testing.T) {
	h := midHeap(false)
	numbers := []int64{0, 2, -2, 12, 14, 20, 22, 4000, 4002, 4010, 5200, 5202, -14, 1999999998, 2000000000, -2000000000}
	for _, w := range slices.Concat(numbers, wrongWords(), farWords()) {
		for _, at := range midObjects(false) {
			wantNotBecome(t, "mid heap", h, ref(at), w)
		}
		wantNotBecome(t, "mid heap, both", h, w, w)
		wantNotBecome(t, "mid heap, both", h, w, 0)
		wantNotBecome(t, "mid heap, both", h, w, -1)
	}
}

// TestEveryWordBecomes asks for each word from below 0 to beyond the addresses, as either of the two.
func TestEveryWordBecomes(t *testing.T) {
	for _, flip := range []bool{false, true} {
		h := midHeap(flip)
		for w := int64(-20); w < 6420; w++ {
			if modelMeans(midObjects(flip), w) {
				holdsToBecomeModel(t, "mid heap", h, w, ref(10))
				holdsToBecomeModel(t, "mid heap", h, ref(10), w)
				continue
			}
			wantNotBecome(t, "mid heap", h, w, ref(10))
		}
	}
}

// TestBecomeWithinAndBehindObjects has each address of a full object, the one behind it, and the first and the last of each unused part.
func TestBecomeWithinAndBehindObjects(t *testing.T) {
	for _, flip := range []bool{false, true} {
		h := largeHeap(flip)
		for _, at := range largeOnes(flip) {
			for by := int64(1); by < 64; by++ {
				wantNotBecome(t, "within", h, ref(at+by), ref(0))
			}
			if !holdsToBecomeModel(t, "at its start", h, ref(at), ref(4+60)).is {
				t.Errorf("the large one at %d was refused", at)
			}
		}
	}
	bothWays(func(flip bool, used int64, s int64) {
		h := ended(laidHeap(flip, bare(1, 2), bare(3), bare(4)), ref(0))
		for _, at := range []int64{8, 12, 1996, 1999, 2004, 2008, 2596, 2599, used + 4, used + 8, used + 296, used + 299, s, s + 4, s + 296, s + 299} {
			wantNotBecome(t, "behind the used part", h, ref(at), ref(0))
			wantNotBecome(t, "behind the used part", h, ref(at), ref(2000))
			wantReferrers(t, "behind the used part", h, ref(at))
		}
	})
}

// TestAddressesAreNotWords has the objects' addresses as they are: these are numbers, or words of other places.
func TestAddressesAreNotWords(t *testing.T) {
	h := midHeap(false)
	for _, at := range midObjects(false) {
		wantNotBecome(t, "an address", h, at, ref(10))
		wantReferrers(t, "an address", h, at, modelReferrers(h, at)...)
	}
}

// TestBecomeInAHeapOfNoObject has none of the two.
func TestBecomeInAHeapOfNoObject(t *testing.T) {
	for _, h := range []impl.Heap{impl.NewHeap(), laidHeap(true, nil, nil, nil), rooted(impl.NewHeap(), num(0), num(5))} {
		for _, w := range []int64{-1, 0, 1, 10, 4000, 4001, 5201, 5801, 6399, 6401} {
			wantNotBecome(t, "no object", h, w, w)
			wantNotBecome(t, "no object", h, w, 1)
			wantReferrers(t, "no object", h, w)
		}
	}
}

// TestWrongHeapsBecomeNothing has one for every rule that a heap may break.
func TestWrongHeapsBecomeNothing(t *testing.T) {
	for _, c := range wrongHeaps() {
		for _, pair := range [][2]int64{{ref(0), ref(10)}, {ref(2000), ref(2600)}, {ref(6), ref(2900)}, {ref(0), ref(0)}, {0, -1}} {
			wantNotBecome(t, c.name, c.heap, pair[0], pair[1])
		}
		for _, w := range []int64{ref(0), ref(10), ref(2000), ref(2600), ref(2900), 0, -1} {
			wantReferrers(t, c.name, c.heap, w)
		}
	}
}

// TestWrongHeapsBecomeNothingAtFarWords asks where there is no word, too.
func TestWrongHeapsBecomeNothingAtFarWords(t *testing.T) {
	for _, c := range slices.Concat(wrongCounts(), crossing()) {
		for _, w := range slices.Concat([]int64{1, 3969, 4001, 5201, 5801, 6399, 6401}, farWords()) {
			wantNotBecome(t, c.name, c.heap, w, ref(0))
			wantReferrers(t, c.name, c.heap, w)
		}
	}
}

// TestWhatWouldBeRightThenIsWrong has heaps that are wrong by a word that is changed: they are refused all the same.
func TestWhatWouldBeRightThenIsWrong(t *testing.T) {
	for _, w := range []int64{ref(1), ref(22), -1, 2000000002} {
		field := withWord(16, w)
		root := changed(false, func(h *impl.Heap) { h.Roots[0] = w })
		for _, h := range []impl.Heap{field, root} {
			wantNotBecome(t, "a wrong word", h, w, ref(0))
			wantReferrers(t, "a wrong word", h, w)
		}
	}
	// Kept is what it would be then, and is not what it must be.
	early := changed(false, func(h *impl.Heap) { h.Kept = []int64{10, 17} })
	wantNotBecome(t, "Kept as it would be then", early, ref(10), ref(2000))
}
