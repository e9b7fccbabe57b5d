package tests

import (
	"slices"
	"testing"

	"loop.example/g00140/impl"
)

// manyRoots is midHeap with so many roots, all of them unlike.
func manyRoots(flip bool, n int64) impl.Heap {
	h := rooted(midHeap(flip))
	for i := range n {
		h.Roots = append(h.Roots, num(i-5))
	}
	return h
}

func TestAddRootInANewHeap(t *testing.T) {
	h, is := impl.AddRoot(impl.NewHeap(), num(-3))
	wantRoots(t, "a number", h, is, impl.NewHeap(), []int64{-6})
	wantNotAdded(t, "no object", h, ref(0))
	wantNotAdded(t, "no object", h, ref(2000))
	wantNotAdded(t, "no object", h, ref(2600))
	made := wantMade(t, "with a root", h, 4, 2)
	h, is = impl.AddRoot(made, ref(2000))
	wantRoots(t, "the new object", h, is, made, []int64{-6, 4001})
	wantShape(t, "the new object", h, aGraph([]int64{-6, 1}, aNode(4, 1, 0, 0)), 6)
}

// TestRootsOfRightWords has numbers up to their ends, and the addresses of objects in each space.
func TestRootsOfRightWords(t *testing.T) {
	for _, flip := range []bool{false, true} {
		was := midHeap(flip)
		for _, w := range rightWords(flip) {
			h, is := impl.AddRoot(was, w)
			wantRoots(t, "AddRoot of "+digits(w), h, is, was, slices.Concat(was.Roots, []int64{w}))
			for i := range was.Roots {
				roots := slices.Clone(was.Roots)
				roots[i] = w
				h, is := impl.SetRoot(was, int64(i), w)
				wantRoots(t, "SetRoot of "+digits(int64(i))+" to "+digits(w), h, is, was, roots)
			}
		}
	}
}

// TestRootsOfWrongWords has no words, and addresses inside an object, at a header's other words, in the unused parts and of no space.
func TestRootsOfWrongWords(t *testing.T) {
	h := midHeap(false)
	for _, w := range slices.Concat(wrongWords(), farWords()) {
		wantNotAdded(t, "mid heap", h, w)
		for i := range h.Roots {
			wantNotSet(t, "mid heap", h, int64(i), w)
		}
	}
}

// TestRootsOfEveryAddress asks for each word from below 0 to beyond the addresses.
func TestRootsOfEveryAddress(t *testing.T) {
	for _, flip := range []bool{false, true} {
		was := midHeap(flip)
		for w := int64(-9); w < 6420; w += 2 {
			added, is := impl.AddRoot(was, w)
			set, too := impl.SetRoot(was, 4, w)
			if !slices.ContainsFunc(midObjects(flip), func(at int64) bool { return ref(at) == w }) {
				if is || too || !isZeroHeap(added) || !isZeroHeap(set) {
					t.Errorf("%d is no object's: %v, %v", w, is, too)
				}
				continue
			}
			wantRoots(t, "AddRoot of "+digits(w), added, is, was, slices.Concat(was.Roots, []int64{w}))
			wantRoots(t, "SetRoot to "+digits(w), set, too, was, slices.Concat(was.Roots[:4], []int64{w}))
		}
	}
}

// TestRootsAtTheEndsOfNumbers has the last numbers, and one beyond them.
func TestRootsAtTheEndsOfNumbers(t *testing.T) {
	was := manyRoots(false, 1)
	for _, w := range []int64{-2000000000, -1999999998, 1999999998, 2000000000} {
		added, is := impl.AddRoot(was, w)
		wantRoots(t, "AddRoot of "+digits(w), added, is, was, []int64{num(-5), w})
		set, is := impl.SetRoot(was, 0, w)
		wantRoots(t, "SetRoot to "+digits(w), set, is, was, []int64{w})
	}
	for _, w := range []int64{-2000000004, -2000000003, -2000000002, -2000000001, -1999999999, 1999999999, 2000000001, 2000000002, 2000000003, 2000000004} {
		wantNotAdded(t, "one root", was, w)
		wantNotSet(t, "one root", was, 0, w)
	}
}

// TestAddRootUntilThereAreMaxRoots adds roots of all kinds to as many as there may be.
func TestAddRootUntilThereAreMaxRoots(t *testing.T) {
	for _, flip := range []bool{false, true} {
		h, words := rooted(midHeap(flip)), rightWords(flip)
		var roots []int64
		for i := range 20 {
			was := h
			roots = append(roots, words[i%len(words)])
			next, is := impl.AddRoot(was, words[i%len(words)])
			wantRoots(t, "root "+digits(int64(i)), next, is, was, roots)
			h = next
		}
		if len(h.Roots) != 20 {
			t.Fatal(len(h.Roots))
		}
		for _, w := range append(words, wrongWords()...) {
			wantNotAdded(t, "20 roots", h, w)
		}
	}
}

// TestCountsOfRoots has each count that there may be: one more is added unless there are MaxRoots, and any that is there is set.
func TestCountsOfRoots(t *testing.T) {
	for n := range int64(21) {
		was := manyRoots(false, n)
		name := digits(n) + " roots"
		if n == 20 {
			wantNotAdded(t, name, was, num(77))
			wantNotAdded(t, name, was, ref(10))
		} else {
			h, is := impl.AddRoot(was, ref(10))
			wantRoots(t, name, h, is, was, slices.Concat(was.Roots, []int64{ref(10)}))
		}
		for i := range n {
			roots := slices.Clone(was.Roots)
			roots[i] = ref(2606)
			h, is := impl.SetRoot(was, i, ref(2606))
			wantRoots(t, name+", number "+digits(i), h, is, was, roots)
		}
		for _, i := range append([]int64{-20, n, n + 1, n + 20, 21, 40}, farHeapNumbers...) {
			wantNotSet(t, name, was, i, 0)
			wantNotSet(t, name, was, i, ref(10))
			wantNotSet(t, name, was, i, -1)
		}
	}
}

// TestSetRootToWhatItIs answers the heap as it was.
func TestSetRootToWhatItIs(t *testing.T) {
	for _, flip := range []bool{false, true} {
		was := midHeap(flip)
		for i, w := range was.Roots {
			h, is := impl.SetRoot(was, int64(i), w)
			wantRoots(t, "the same one", h, is, was, was.Roots)
		}
	}
}

// TestRootsChangeNoKept has young roots, which make no old object a kept one.
func TestRootsChangeNoKept(t *testing.T) {
	was := laidHeap(false, smallest(3, 1), smallest(3, 10), smallest(3, 20))
	was.Roots = []int64{num(1)}
	for _, w := range []int64{ref(2000), ref(2004), ref(2608)} {
		h, is := impl.AddRoot(was, w)
		wantRoots(t, "a young one", h, is, was, []int64{num(1), w})
		h, is = impl.SetRoot(was, 0, w)
		wantRoots(t, "a young one", h, is, was, []int64{w})
	}
}

// TestRootsOfAFullHeap has the last object that each space may have.
func TestRootsOfAFullHeap(t *testing.T) {
	for _, flip := range []bool{false, true} {
		was := laidHeap(flip, smallest(500, 1), smallest(150, 501), smallest(75, 651))
		last := int64(2896)
		if flip {
			last = 3196
		}
		was.Hash = 1000000000
		was.Roots = []int64{0}
		for _, at := range []int64{0, 1996, 2000, 2596, last - 296, last} {
			h, is := impl.AddRoot(was, ref(at))
			wantRoots(t, "full", h, is, was, []int64{0, ref(at)})
			h, is = impl.SetRoot(was, 0, ref(at))
			wantRoots(t, "full", h, is, was, []int64{ref(at)})
			for by := int64(1); by < 4; by++ {
				wantNotAdded(t, "full", was, ref(at+by))
				wantNotSet(t, "full", was, 0, ref(at+by))
			}
		}
	}
}
