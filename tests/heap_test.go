package tests

import (
	"slices"
	"testing"

	"loop.example/g00140/impl"
)

func TestHeapLimits(t *testing.T) {
	if impl.EdenBase != 2000 || impl.SurvBase != 2600 || impl.MaxFields != 60 || impl.MaxRoots != 20 {
		t.Fatal(impl.EdenBase, impl.SurvBase, impl.MaxFields, impl.MaxRoots)
	}
}

func TestNewHeap(t *testing.T) {
	h := impl.NewHeap()
	if !sameHeap(h, impl.Heap{Words: make([]int64, 3200), Old: 0, Eden: 2000, Surv: 2600, Hash: 1}) {
		t.Errorf("%d words, roots %v, %d %d %d %v, hash %d, kept %v", len(h.Words), h.Roots, h.Old, h.Eden, h.Surv, h.Flip, h.Hash, h.Kept)
	}
	wantHeap(t, "new", h, nil)
	h.Flip, h.Surv = true, 2900
	wantHeap(t, "new, the other survivors", h, nil)
	h.Roots, h.Kept = []int64{}, []int64{}
	wantHeap(t, "new, lists that are empty", h, nil)
}

func TestObjectsInEachSpace(t *testing.T) {
	one := []thing{aThing(99, 1, 15, num(3))}
	for _, c := range []struct {
		name    string
		heap    impl.Heap
		objects []int64
	}{
		{"old", laidHeap(false, one, nil, nil), []int64{0}},
		{"eden", laidHeap(false, nil, one, nil), []int64{2000}},
		{"survivors", laidHeap(false, nil, nil, one), []int64{2600}},
		{"old, the other survivors", laidHeap(true, one, nil, nil), []int64{0}},
		{"eden, the other survivors", laidHeap(true, nil, one, nil), []int64{2000}},
		{"the other survivors", laidHeap(true, nil, nil, one), []int64{2900}},
		{"two old", laidHeap(false, smallest(2, 1), nil, nil), []int64{0, 4}},
		{"all", midHeap(false), midObjects(false)},
		{"all, the other survivors", midHeap(true), midObjects(true)},
	} {
		wantHeap(t, c.name, c.heap, c.objects)
	}
}

// TestHeadersTellTheObjects asks at every address that a heap has, and at some that none has.
func TestHeadersTellTheObjects(t *testing.T) {
	heads := map[int64][4]int64{
		0: {2, 9, 4, 0}, 6: {0, 0, 1, 15}, 10: {3, 99, 7, 3}, 17: {1, 1, 2, 4},
		2000: {1, 5, 8, 0}, 2005: {0, 3, 10, 0}, 2600: {2, 2, 12, 1}, 2606: {0, 4, 11, 2},
	}
	none := [4]int64{-1, -1, -1, -1}
	h := midHeap(false)
	for at := int64(-70); at < 3300; at++ {
		want, is := heads[at]
		if !is {
			want = none
		}
		wantHeader(t, "mid heap", h, at, want)
	}
	h = midHeap(true)
	wantHeader(t, "the other survivors", h, 2900, heads[2600])
	wantHeader(t, "the other survivors", h, 2906, heads[2606])
	wantHeader(t, "the other survivors", h, 2600, none)
	defer noPanic(t, "far addresses")
	for _, at := range append([]int64{3200, 3201, 6399}, farHeapNumbers...) {
		wantHeader(t, "mid heap", h, at, none)
		wantHeader(t, "new heap", impl.NewHeap(), at, none)
	}
}

// TestRangesOfAHeader has each number of a header at both of its ends.
func TestRangesOfAHeader(t *testing.T) {
	fields := make([]int64, 60)
	for _, x := range []thing{
		aThing(0, 1, 0), aThing(99, 1, 0), aThing(0, 1, 15), aThing(0, 999999999, 0), aThing(99, 999999999, 15, fields...), aThing(0, 1, 0, fields[1:]...),
	} {
		for at, h := range map[int64]impl.Heap{
			0: laidHeap(false, []thing{x}, nil, nil), 2000: laidHeap(true, nil, []thing{x}, nil),
			2600: laidHeap(false, nil, nil, []thing{x}), 2900: laidHeap(true, nil, nil, []thing{x}),
		} {
			wantHeap(t, "one thing", h, []int64{at})
			wantHeader(t, "one thing", h, at, [4]int64{int64(len(x.fields)), x.class, x.hash, x.age})
		}
	}
}

// TestFullHeaps has used parts that end at each of the last places of their spaces.
func TestFullHeaps(t *testing.T) {
	for _, flip := range []bool{false, true} {
		for _, short := range []int64{0, 1, 2, 3, 4, 5, 60, 63, 64, 65} {
			h := laidHeap(flip, filled(2000-short, 1), filled(600-short, 100), filled(300-short, 200))
			top := int64(2900)
			if flip {
				top = 3200
			}
			if h.Old != 2000-short || h.Eden != 2600-short || h.Surv != top-short {
				t.Fatal(h.Old, h.Eden, h.Surv)
			}
			objects, _ := thingsOf(h)
			wantHeap(t, "short by "+digits(short), h, objects)
		}
	}
}

func TestAsManyObjectsAsThereMayBe(t *testing.T) {
	for _, flip := range []bool{false, true} {
		h := laidHeap(flip, smallest(500, 1), smallest(150, 501), smallest(75, 651))
		objects, _ := thingsOf(h)
		wantHeap(t, "725 objects", h, objects)
		if len(objects) != 725 || impl.Young(h) != 225 {
			t.Error(len(objects), impl.Young(h))
		}
		for _, at := range objects {
			wantHeader(t, "725 objects", h, at, [4]int64(h.Words[at:at+4]))
			wantHeader(t, "725 objects", h, at+1, [4]int64{-1, -1, -1, -1})
		}
	}
}

func TestHashMayBeFromOneToMaxInt(t *testing.T) {
	h := impl.NewHeap()
	for _, hash := range []int64{1, 2, 999999999, 1000000000} {
		h.Hash = hash
		wantHeap(t, "no object, Hash "+digits(hash), h, nil)
	}
	h = midHeap(false)
	for _, hash := range []int64{13, 14, 1000000000} {
		h.Hash = hash
		wantHeap(t, "objects, Hash "+digits(hash), h, midObjects(false))
	}
	h = laidHeap(false, []thing{aThing(0, 999999999, 0)}, nil, nil)
	if h.Hash != 1000000000 {
		t.Fatal(h.Hash)
	}
	wantHeap(t, "the last hash", h, []int64{0})
}

// TestHashesNeedNotRise has hashes in an order of their own in each space.
func TestHashesNeedNotRise(t *testing.T) {
	h := laidHeap(false, []thing{aThing(0, 9, 0), aThing(0, 3, 0)}, []thing{aThing(0, 8, 0), aThing(0, 1, 0)}, []thing{aThing(0, 5, 0), aThing(0, 4, 0)})
	wantHeap(t, "hashes", h, []int64{0, 4, 2000, 2004, 2600, 2604})
}

func TestRootsAndFieldsOfAnyWord(t *testing.T) {
	for _, flip := range []bool{false, true} {
		for _, w := range rightWords(flip) {
			h := midHeap(flip)
			h.Roots = []int64{w}
			wantHeap(t, "root "+digits(w), h, midObjects(flip))
			h.Roots = slices.Repeat([]int64{w}, 20)
			wantHeap(t, "20 roots "+digits(w), h, midObjects(flip))
			h = midHeap(flip)
			h.Words[2004] = w
			wantHeap(t, "young field "+digits(w), h, midObjects(flip))
			h = midHeap(flip)
			h.Words[14] = w
			if w%2 != 0 && w > 4000 {
				h.Kept = []int64{0, 10, 17}
			}
			wantHeap(t, "old field "+digits(w), h, midObjects(flip))
		}
	}
}

// rightWords are words that a field or a root of midHeap may be.
func rightWords(flip bool) []int64 {
	out := []int64{0, 2, -2, 4000, 4002, 6398, 6400, 6402, 2000000000, -2000000000, 1999999998, -1999999998}
	for _, at := range midObjects(flip) {
		out = append(out, ref(at))
	}
	return out
}

func TestMaxRoots(t *testing.T) {
	for n := range 21 {
		h := impl.NewHeap()
		h.Roots = make([]int64, n)
		wantHeap(t, digits(int64(n))+" roots", h, nil)
	}
}
