package tests

import (
	"slices"
	"testing"

	"loop.example/g00140/impl"
)

// TestClassesAndHashes has objects in each space.
func TestClassesAndHashes(t *testing.T) {
	for w, want := range map[int64][2]int64{
		1: {9, 4}, 13: {0, 1}, 21: {99, 7}, 35: {1, 2}, 4001: {5, 8}, 4011: {3, 10}, 5201: {2, 12}, 5213: {4, 11},
	} {
		wantTold(t, "mid heap", midHeap(false), w, want)
	}
	wantTold(t, "the other survivors", midHeap(true), 5801, [2]int64{2, 12})
	wantTold(t, "the other survivors", midHeap(true), 5813, [2]int64{4, 11})
	wantTold(t, "the other survivors", midHeap(true), 5201, [2]int64{-1, -1})
}

// TestClassesOfEveryWord has each word from below 0 to beyond the addresses, the numbers among them.
func TestClassesOfEveryWord(t *testing.T) {
	for _, flip := range []bool{false, true} {
		h := midHeap(flip)
		for w := int64(-20); w < 6420; w++ {
			wantTold(t, "mid heap", h, w, modelTold(h, w))
		}
	}
}

// TestClassesOfNumbers has numbers up to their ends, and what lies beyond, in heaps with and without objects.
func TestClassesOfNumbers(t *testing.T) {
	for _, c := range placedHeaps() {
		for _, w := range []int64{0, 2, -2, 100, 200, 4000, 6400, 1999999998, 2000000000, -1999999998, -2000000000} {
			wantTold(t, c.name, c.heap, w, [2]int64{100, 0})
		}
		for _, w := range []int64{2000000001, 2000000002, 2000000004, -2000000001, -2000000002, -2000000004, -1, -3} {
			wantTold(t, c.name, c.heap, w, [2]int64{-1, -1})
		}
	}
}

func TestClassesOfWrongWords(t *testing.T) {
	for _, w := range slices.Concat(wrongWords(), farWords()) {
		wantTold(t, "mid heap", midHeap(false), w, [2]int64{-1, -1})
	}
	for _, w := range farWords() {
		wantTold(t, "new heap", impl.NewHeap(), w, [2]int64{-1, -1})
	}
	for _, w := range []int64{1, 4001, 5201, 5801, 6399} {
		wantTold(t, "new heap", impl.NewHeap(), w, [2]int64{-1, -1})
	}
}

// TestEndsOfClassesAndHashes has the least and the greatest of both.
func TestEndsOfClassesAndHashes(t *testing.T) {
	for _, class := range []int64{0, 1, 98, 99} {
		for _, hash := range []int64{1, 2, 999999998, 999999999} {
			one := []thing{aThing(class, hash, 15, num(class))}
			for at, h := range map[int64]impl.Heap{
				0: laidHeap(false, one, nil, nil), 2000: laidHeap(false, nil, one, nil), 2600: laidHeap(false, nil, nil, one), 2900: laidHeap(true, nil, nil, one),
			} {
				wantTold(t, "alone", h, ref(at), [2]int64{class, hash})
			}
		}
	}
}

// TestSetChangesNoClassAndNoHash asks for all objects after a field was set.
func TestSetChangesNoClassAndNoHash(t *testing.T) {
	for at, fields := range midFields(false) {
		for i := range fields {
			h, is := impl.Set(midHeap(false), ref(at), int64(i), ref(2606))
			for _, other := range midObjects(false) {
				wantTold(t, digits(at)+" was set", h, ref(other), modelTold(midHeap(false), ref(other)))
			}
			if !is {
				t.Error("it was refused")
			}
		}
	}
}

// TestWrongHeapsTellNothing gives the fixed answers of all four functions.
func TestWrongHeapsTellNothing(t *testing.T) {
	for _, c := range wrongHeaps() {
		for _, w := range []int64{0, num(5), ref(0), ref(10), ref(2000), ref(2600), -1} {
			wantTold(t, c.name, c.heap, w, [2]int64{-1, -1})
		}
		for _, w := range []int64{ref(0), ref(2000), 0, -1} {
			wantNoField(t, c.name, c.heap, w, 0)
		}
		wantNoField(t, c.name, c.heap, ref(10), 2)
		wantNoField(t, c.name, c.heap, ref(0), -1)
	}
}

// TestWrongHeapsTellNothingAtFarWords asks for fields where there is no word, too.
func TestWrongHeapsTellNothingAtFarWords(t *testing.T) {
	for _, c := range slices.Concat(wrongCounts(), crossing()) {
		for _, w := range slices.Concat([]int64{1, 3969, 4001, 5201, 5801, 6399, 6401}, farWords()) {
			wantTold(t, c.name, c.heap, w, [2]int64{-1, -1})
			wantNoField(t, c.name, c.heap, w, 0)
			wantNoField(t, c.name, c.heap, w, 59)
			wantNoField(t, c.name, c.heap, w, 1<<63-1)
		}
	}
}
