package tests

import (
	"slices"
	"testing"

	"loop.example/g00140/impl"
)

// TestNewInANewHeap has every number of the answer written out.
func TestNewInANewHeap(t *testing.T) {
	h, w, is := impl.New(impl.NewHeap(), 7, 3)
	want := impl.Heap{Words: make([]int64, 3200), Eden: 2007, Surv: 2600, Hash: 2}
	copy(want.Words[2000:], []int64{3, 7, 1, 0, 0, 0, 0})
	if !is || w != 4001 || !sameHeap(h, want) {
		t.Fatalf("%v: the word is %d, Eden %d, Hash %d, words %v", is, w, h.Eden, h.Hash, h.Words[2000:2010])
	}
	h, w, is = impl.New(h, 99, 0)
	want.Eden, want.Hash = 2011, 3
	copy(want.Words[2007:], []int64{0, 99, 2, 0})
	if !is || w != 4015 || !sameHeap(h, want) {
		t.Fatalf("%v: the word is %d, Eden %d, Hash %d, words %v", is, w, h.Eden, h.Hash, h.Words[2000:2015])
	}
}

// TestNewBehindObjectsInAllSpaces has the new object behind the last one of eden.
func TestNewBehindObjectsInAllSpaces(t *testing.T) {
	for _, flip := range []bool{false, true} {
		h := wantMade(t, "all", midHeap(flip), 42, 2)
		want := midHeap(flip)
		copy(want.Words[2009:], []int64{2, 42, 13, 0})
		want.Eden, want.Hash = 2015, 14
		if !sameHeap(h, want) {
			t.Errorf("Eden %d, Hash %d, words %v", h.Eden, h.Hash, h.Words[2000:2020])
		}
		wantHeap(t, "all and one", h, slices.Insert(midObjects(flip), 6, 2009))
	}
}

// TestEndsOfClassAndSize has each class and size at both ends, and one beyond either end.
func TestEndsOfClassAndSize(t *testing.T) {
	for _, c := range placedHeaps() {
		for _, class := range []int64{0, 1, 50, 98, 99} {
			for _, size := range []int64{0, 1, 2, 30, 59, 60} {
				wantMade(t, c.name, c.heap, class, size)
			}
		}
		for _, wrong := range []int64{-2, -1, 100, 101} {
			wantNotMade(t, c.name, c.heap, wrong, 3)
		}
		for _, wrong := range []int64{-5, -4, -3, -2, -1, 61, 62, 596, 597} {
			wantNotMade(t, c.name, c.heap, 3, wrong)
		}
		wantNotMade(t, c.name, c.heap, -1, -1)
		wantNotMade(t, c.name, c.heap, 100, 61)
	}
}

func TestNewOfFarClassesAndSizes(t *testing.T) {
	for _, far := range farHeapNumbers {
		for _, h := range []impl.Heap{impl.NewHeap(), midHeap(false), midHeap(true), edenLeft(0), edenLeft(4)} {
			wantNotMade(t, "a far class", h, far, 0)
			wantNotMade(t, "a far size", h, 0, far)
			wantNotMade(t, "both far", h, far, far)
		}
	}
}

// TestNewUntilEdenIsFull makes objects of one size as long as there is room.
func TestNewUntilEdenIsFull(t *testing.T) {
	for size := range int64(61) {
		h, room := impl.NewHeap(), int64(600)
		wantRoom(t, "new", h, 600)
		for room >= 4+size {
			h = wantMade(t, "one more", h, h.Hash%100, size)
			room -= 4 + size
			wantRoom(t, "one more of size "+digits(size), h, room)
		}
		if made := 600 / (4 + size); h.Hash != made+1 || impl.Young(h) != made {
			t.Fatalf("%d objects of size %d: Hash %d", impl.Young(h), size, h.Hash)
		}
		wantNotMade(t, "no room", h, 5, size)
		if room >= 4 {
			h = wantMade(t, "what just fits", h, 5, room-4)
			wantRoom(t, "full", h, 0)
			wantNotMade(t, "full", h, 5, 0)
		}
	}
}

// TestTheLastThatFits has eden with room for just one of each size, and one word less.
func TestTheLastThatFits(t *testing.T) {
	for size := range int64(61) {
		h := edenLeft(4 + size)
		wantRoom(t, "just room", h, 4+size)
		for more := size + 1; more <= 61; more++ {
			wantNotMade(t, "one word more than there are", h, 9, more)
		}
		full := wantMade(t, "just room", h, 9, size)
		if full.Eden != 2600 {
			t.Errorf("Eden is %d", full.Eden)
		}
		wantRoom(t, "full", full, 0)
		wantNotMade(t, "full", full, 9, 0)
		short := edenLeft(3 + size)
		wantRoom(t, "a word too few", short, 3+size)
		wantNotMade(t, "a word too few", short, 9, size)
	}
	for _, left := range []int64{0, 1, 2, 3} {
		for size := int64(-4); size <= 60; size++ {
			wantNotMade(t, "no room for a header", edenLeft(left), 9, size)
		}
	}
}

// TestEdenIsNotCarriedOn has room in the old space and among the survivors, and none in eden.
func TestEdenIsNotCarriedOn(t *testing.T) {
	for _, flip := range []bool{false, true} {
		h := laidHeap(flip, nil, filled(600, 1), nil)
		wantRoom(t, "full", h, 0)
		wantNotMade(t, "full", h, 0, 0)
		wantNotMade(t, "full", h, 0, 60)
	}
}

// TestTheLastHash makes an object with the hash MaxInt - 1, and none with MaxInt.
func TestTheLastHash(t *testing.T) {
	for _, c := range placedHeaps() {
		h := c.heap
		h.Hash = 999999998
		h = wantMade(t, c.name+", Hash MaxInt - 2", h, 1, 1)
		if h.Hash != 999999999 {
			t.Fatal(h.Hash)
		}
		h = wantMade(t, c.name+", Hash MaxInt - 1", h, 1, 1)
		if h.Hash != 1000000000 || h.Words[h.Eden-3] != 999999999 {
			t.Errorf("%s: Hash is %d, the object's %d", c.name, h.Hash, h.Words[h.Eden-3])
		}
		wantNotMade(t, c.name+", Hash MaxInt", h, 1, 1)
		wantNotMade(t, c.name+", Hash MaxInt", h, 0, 0)
		h = c.heap
		h.Hash = 1000000000
		wantNotMade(t, c.name+", Hash MaxInt from the start", h, 1, 1)
	}
}

// TestHashesGoOnFromHash leaves out those that Hash has passed, whether an object has them or not.
func TestHashesGoOnFromHash(t *testing.T) {
	h := midHeap(false)
	h.Hash = 700
	for i := range int64(5) {
		h = wantMade(t, "from 700 on", h, 3, i)
		if got := h.Words[h.Eden-i-2]; got != 700+i {
			t.Errorf("object %d has the hash %d", i, got)
		}
	}
}

func TestRoom(t *testing.T) {
	for _, c := range []struct {
		name string
		heap impl.Heap
		want int64
	}{
		{"new", impl.NewHeap(), 600},
		{"all", midHeap(false), 591},
		{"all, the other survivors", midHeap(true), 591},
		{"full but for eden", laidHeap(false, filled(2000, 1), nil, filled(300, 100)), 600},
		{"full", laidHeap(true, filled(2000, 1), filled(600, 200), filled(300, 100)), 0},
		{"eden alone full", laidHeap(false, nil, filled(600, 200), nil), 0},
		{"1 left", edenLeft(1), 1},
		{"596 left", edenLeft(596), 596},
	} {
		wantRoom(t, c.name, c.heap, c.want)
	}
	last := impl.NewHeap()
	last.Hash = 1000000000
	wantRoom(t, "Hash MaxInt", last, 600)
}

// TestWrongHeapsMakeNothing gives the fixed answers of all four functions.
func TestWrongHeapsMakeNothing(t *testing.T) {
	for _, c := range wrongHeaps() {
		wantNotMade(t, c.name, c.heap, 0, 0)
		wantNotMade(t, c.name, c.heap, 99, 60)
		wantNotMade(t, c.name, c.heap, 100, 61)
		wantRoom(t, c.name, c.heap, -1)
		wantNotAdded(t, c.name, c.heap, 0)
		wantNotAdded(t, c.name, c.heap, ref(0))
		wantNotSet(t, c.name, c.heap, 0, 0)
		wantNotSet(t, c.name, c.heap, 0, ref(2000))
		wantNotSet(t, c.name, c.heap, -1, -1)
	}
}
