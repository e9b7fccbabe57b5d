package tests

import (
	"slices"
	"testing"

	"loop.example/g00140/impl"
)

// TestSetInANewHeap has every number of the answers written out.
func TestSetInANewHeap(t *testing.T) {
	h, _, _ := impl.New(impl.NewHeap(), 7, 2)
	h, _, _ = impl.New(h, 8, 0)
	want := impl.Heap{Words: make([]int64, 3200), Eden: 2010, Surv: 2600, Hash: 3}
	copy(want.Words[2000:], []int64{2, 7, 1, 0, 0, 4013, 0, 8, 2, 0})
	h, is := impl.Set(h, 4001, 1, 4013)
	if !is || !sameHeap(h, want) {
		t.Fatalf("%v: Eden %d, Hash %d, Kept %v, words %v", is, h.Eden, h.Hash, h.Kept, h.Words[2000:2012])
	}
	h, is = impl.Set(h, 4001, 0, -18)
	want.Words[2004] = -18
	if !is || !sameHeap(h, want) {
		t.Fatalf("%v: Eden %d, Hash %d, Kept %v, words %v", is, h.Eden, h.Hash, h.Kept, h.Words[2000:2012])
	}
	wantGot(t, "two set", h, 4001, 0, -18)
	wantGot(t, "two set", h, 4001, 1, 4013)
}

// TestFieldsOfEachObject has objects in all spaces: each field, one past the last, and those below 0.
func TestFieldsOfEachObject(t *testing.T) {
	for _, flip := range []bool{false, true} {
		h := midHeap(flip)
		for at, fields := range midFields(flip) {
			name := "the object at " + digits(at)
			for i, x := range fields {
				wantGot(t, name, h, ref(at), int64(i), x)
			}
			n := int64(len(fields))
			for _, i := range append([]int64{-2, -1, n, n + 1, n + 4, 59, 60, 61}, farHeapNumbers...) {
				wantNoField(t, name, h, ref(at), i)
			}
		}
	}
}

// TestSetOfEachField sets each field of objects in all spaces to numbers up to their ends, and to objects in all spaces.
func TestSetOfEachField(t *testing.T) {
	for _, flip := range []bool{false, true} {
		for at, fields := range midFields(flip) {
			for i := range fields {
				for _, x := range rightWords(flip) {
					h := midHeap(flip)
					h.Words[at+4+int64(i)] = x
					wantWritten(t, "mid heap", midHeap(flip), at, int64(i), x, modelKept(h))
				}
			}
		}
	}
}

// TestSetOfWrongWords has no words, and addresses inside an object, at a header's other words, in the unused parts and of no space.
func TestSetOfWrongWords(t *testing.T) {
	h := midHeap(false)
	for _, x := range slices.Concat(wrongWords(), farWords()) {
		for at, fields := range midFields(false) {
			for i := range fields {
				wantNotWritten(t, "mid heap", h, ref(at), int64(i), x)
			}
		}
	}
}

// TestSetAtTheEndsOfNumbers has the last numbers, and one beyond them, in each space.
func TestSetAtTheEndsOfNumbers(t *testing.T) {
	for _, at := range []int64{10, 2000} {
		for _, x := range []int64{-2000000000, -1999999998, 1999999998, 2000000000} {
			wantWritten(t, "an end", midHeap(false), at, 0, x, []int64{0, 17})
		}
		for _, x := range []int64{-2000000004, -2000000003, -2000000002, -2000000001, -1999999999, 1999999999, 2000000001, 2000000002, 2000000003, 2000000004} {
			wantNotWritten(t, "beyond an end", midHeap(false), ref(at), 0, x)
		}
	}
}

// TestFieldsAtEveryAddress asks for field 0 and others at each odd word from below 0 to beyond the addresses.
func TestFieldsAtEveryAddress(t *testing.T) {
	for _, flip := range []bool{false, true} {
		h, all := midHeap(flip), midFields(flip)
		for w := int64(-9); w < 6420; w += 2 {
			fields := all[(w-1)/2]
			if w < 0 {
				fields = nil
			}
			for i := range int64(4) {
				if i < int64(len(fields)) {
					wantGot(t, "mid heap", h, w, i, fields[i])
				} else if x, is := impl.Get(h, w, i); is || x != 0 {
					t.Errorf("Get of %d, field %d says %v: %d", w, i, is, x)
				}
			}
			got, is := impl.Set(h, w, 0, num(3))
			if is != (len(fields) > 0) || !is && !isZeroHeap(got) {
				t.Errorf("Set of %d says %v", w, is)
			}
		}
	}
}

// TestFieldsOfNoObject has numbers (those of addresses too), no words, and addresses at which no object lies.
func TestFieldsOfNoObject(t *testing.T) {
	h := midHeap(false)
	for _, w := range slices.Concat(wrongWords(), farWords(), []int64{0, 2, -2, 10, 12, 20, 34, 4000, 4002, 5200, 5202, 2000000000, -2000000000}) {
		for _, i := range []int64{-1, 0, 1, 2} {
			wantNoField(t, "mid heap", h, w, i)
		}
	}
}

// TestFieldsInAHeapOfNoObject has none to get, and none to set.
func TestFieldsInAHeapOfNoObject(t *testing.T) {
	for _, h := range []impl.Heap{impl.NewHeap(), laidHeap(true, nil, nil, nil)} {
		for _, w := range []int64{-1, 0, 1, 4000, 4001, 5201, 5801, 6399, 6401} {
			wantNoField(t, "new", h, w, 0)
		}
	}
}

// TestLargestObjects has 60 fields in the first and the last object of each space.
func TestLargestObjects(t *testing.T) {
	for _, flip := range []bool{false, true} {
		h := largeHeap(flip)
		for _, at := range largeOnes(flip) {
			name := "the large one at " + digits(at)
			hash := h.Words[at+2]
			for i := range int64(60) {
				wantGot(t, name, h, ref(at), i, num(hash*1000+i))
			}
			for _, i := range append([]int64{-60, 60, 61, 64, 3200}, farHeapNumbers...) {
				wantNoField(t, name, h, ref(at), i)
			}
			for _, i := range []int64{0, 1, 30, 58, 59} {
				wantWritten(t, name, h, at, i, num(-1), nil)
				wantWritten(t, name, h, at, i, ref(0), nil)
				kept := []int64{at}
				if at >= 2000 {
					kept = nil
				}
				wantWritten(t, name, h, at, i, ref(2536), kept)
			}
		}
	}
}

// TestSetToWhatItIs answers the heap as it was.
func TestSetToWhatItIs(t *testing.T) {
	for _, flip := range []bool{false, true} {
		for at, fields := range midFields(flip) {
			for i, x := range fields {
				wantWritten(t, "the same one", midHeap(flip), at, int64(i), x, []int64{0, 17})
			}
		}
	}
}

// TestSetToItself has objects of each space in a field of their own.
func TestSetToItself(t *testing.T) {
	for _, flip := range []bool{false, true} {
		for at, fields := range midFields(flip) {
			for i := range fields {
				h := midHeap(flip)
				h.Words[at+4+int64(i)] = ref(at)
				wantWritten(t, "itself", midHeap(flip), at, int64(i), ref(at), modelKept(h))
			}
		}
	}
}

// TestSetChangesTheGraph sets a field through which another object is reached.
func TestSetChangesTheGraph(t *testing.T) {
	h := rooted(laidHeap(false, []thing{aThing(1, 1, 0, num(1), num(2)), aThing(2, 2, 0, ref(0))}, []thing{aThing(3, 3, 0)}, nil), ref(0))
	wantShape(t, "alone", h, impl.Graph{Roots: []int64{1}, Nodes: []impl.Node{aNode(1, 1, 2, 4)}, Hash: 4}, 6)
	h = wantWritten(t, "a young one", h, 0, 1, ref(2000), []int64{0})
	wantShape(t, "two", h, impl.Graph{Roots: []int64{1}, Nodes: []impl.Node{aNode(1, 1, 2, 3), aNode(3, 3)}, Hash: 4}, 10)
	h = wantWritten(t, "an old one", h, 0, 0, ref(6), []int64{0})
	wantShape(t, "three", h, aGraph([]int64{1}, aNode(1, 1, 3, 5), aNode(2, 2, 1), aNode(3, 3)), 15)
}

// TestSetTakesNoRootForAField has roots that stay, whatever is set.
func TestSetTakesNoRootForAField(t *testing.T) {
	h := manyRoots(false, 20)
	h.Hash = 1000000000
	wantWritten(t, "20 roots, Hash MaxInt", h, 10, 1, ref(2606), []int64{0, 10, 17})
	full := laidHeap(true, filled(2000, 1), filled(600, 100), filled(300, 200))
	wantWritten(t, "full", full, 0, 59, ref(2900), []int64{0})
}
