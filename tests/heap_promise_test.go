package tests

import (
	"slices"
	"testing"

	"loop.example/g00140/impl"
)

// TestKept has the old objects that have a young address in a field, whatever else they have.
func TestKept(t *testing.T) {
	young := []thing{aThing(0, 100, 0), aThing(0, 101, 0)}
	last := make([]int64, 60)
	last[59] = ref(2004)
	for _, c := range []struct {
		name   string
		fields []int64
		kept   []int64
	}{
		{"no field", nil, nil},
		{"the first young address", []int64{ref(2000)}, []int64{4}},
		{"the same one twice", []int64{ref(2000), ref(2000)}, []int64{4}},
		{"two young ones", []int64{ref(2000), ref(2604)}, []int64{4}},
		{"the last of many", last, []int64{4}},
		{"a survivor", []int64{ref(2600)}, []int64{4}},
		{"the last old address", []int64{ref(1996)}, nil},
		{"its own address", []int64{ref(4)}, nil},
		{"numbers that halved are young addresses", []int64{4000, 4008, 5200, num(2000), num(2001), num(2004)}, nil},
	} {
		size := int64(len(c.fields))
		old := slices.Concat([]thing{aThing(1, 1, 0), aThing(2, 2, 0, c.fields...)}, filled(1996-8-size, 3), []thing{aThing(0, 99, 0)})
		h := laidHeap(false, old, young, []thing{aThing(0, 102, 1), aThing(0, 103, 1)})
		h.Kept = c.kept
		objects, _ := thingsOf(h)
		wantHeap(t, c.name, h, objects)
	}
}

// TestHeadersAreNoWords has hashes, classes and sizes that would be addresses, were they words.
func TestHeadersAreNoWords(t *testing.T) {
	old := []thing{aThing(33, 4001, 1, num(5)), aThing(99, 6399, 15, num(6), num(7), num(8)), aThing(1, 999999999, 5)}
	h := laidHeap(false, old, []thing{aThing(9, 5, 7)}, nil)
	wantHeap(t, "odd headers", h, []int64{0, 5, 12, 2000})
}

// TestYoungOnesAreNeverKept has young objects that have young addresses, and old ones that have old ones.
func TestYoungOnesAreNeverKept(t *testing.T) {
	h := laidHeap(true, []thing{aThing(0, 1, 0, ref(0))}, []thing{aThing(0, 2, 0, ref(2900), ref(2000))}, []thing{aThing(0, 3, 0, ref(2000))})
	wantHeap(t, "nothing kept", h, []int64{0, 2000, 2900})
}

// TestAllOldOnesKept has every old object in Kept.
func TestAllOldOnesKept(t *testing.T) {
	var old []thing
	for i := range int64(400) {
		old = append(old, aThing(0, i+1, 0, ref(2000)))
	}
	h := laidHeap(false, old, []thing{aThing(0, 500, 0)}, nil)
	for at := int64(0); at < 2000; at += 5 {
		h.Kept = append(h.Kept, at)
	}
	objects, _ := thingsOf(h)
	wantHeap(t, "400 kept", h, objects)
}

// holdsToModel fails unless the functions tell of h what the model tells.
func holdsToModel(t *testing.T, name string, h impl.Heap) bool {
	t.Helper()
	objects, ok := modelObjects(h)
	if ok {
		wantHeap(t, name, h, objects)
	} else {
		wantWrongHeap(t, name, h)
	}
	return ok
}

// TestObjectsLieOneBehindTheOther goes from header to header over drawn heaps.
func TestObjectsLieOneBehindTheOther(t *testing.T) {
	n := numbers(51)
	for range 400 {
		h := drawnHeap(&n)
		if !holdsToModel(t, "drawn", h) {
			t.Fatal("the drawn heap is not right")
		}
		for i, end := range modelEnds(h) {
			at := []int64{0, 2000, 2600, 2900}[i]
			for at < end {
				size, class, hash, age := impl.Header(h, at)
				if [4]int64{size, class, hash, age} != [4]int64(h.Words[at:at+4]) {
					t.Fatalf("at %d: %d %d %d %d", at, size, class, hash, age)
				}
				at += 4 + size
			}
			if at != end {
				t.Fatalf("the headers lead to %d, not to %d", at, end)
			}
		}
	}
}

// hurt changes one number of a heap to one that is near a limit, near what it was, or far from both.
func hurt(n *numbers, h *impl.Heap) {
	near := []int64{-1, 0, 1, 2, 3, 4, 15, 16, 60, 61, 99, 100, 1999, 2000, 2001, 2600, 2601, 2900, 2901, 3199, 3200, 3201, 4001, 5201, 5801, 6399, 6401, 1000000000, 1000000001, 2000000000, 2000000001, 2000000002, -2000000002}
	change := func(was int64) int64 {
		switch n.below(4) {
		case 0:
			return farHeapNumbers[n.below(len(farHeapNumbers))]
		case 1:
			return near[n.below(len(near))]
		}
		return was + []int64{-4, -2, -1, 1, 2, 4}[n.below(6)]
	}
	objects, fields := thingsOf(*h)
	switch pick := n.below(12); {
	case pick == 0:
		h.Old = change(h.Old)
	case pick == 1:
		h.Eden = change(h.Eden)
	case pick == 2:
		h.Surv = change(h.Surv)
	case pick == 3:
		h.Flip = !h.Flip
	case pick == 4:
		h.Hash = change(h.Hash)
	case pick == 5 && len(h.Kept) > 0:
		i := n.below(len(h.Kept))
		h.Kept[i] = change(h.Kept[i])
	case pick == 6 && len(h.Roots) > 0:
		i := n.below(len(h.Roots))
		h.Roots[i] = change(h.Roots[i])
	case pick < 10 && len(objects) > 0:
		i := n.below(len(objects))
		at := objects[i] + int64(n.below(4))
		if len(fields[i]) > 0 && n.below(2) == 0 {
			at = fields[i][n.below(len(fields[i]))]
		}
		h.Words[at] = change(h.Words[at])
	default:
		at := n.below(3200)
		h.Words[at] = change(h.Words[at])
	}
}

// TestHurtHeaps holds drawn heaps, of which one number is another, against the model.
func TestHurtHeaps(t *testing.T) {
	n := numbers(52)
	right, wrong := 0, 0
	for range 300 {
		h := drawnHeap(&n)
		for range 20 {
			one := cloneHeap(h)
			hurt(&n, &one)
			if holdsToModel(t, "hurt", one) {
				right++
			} else {
				wrong++
			}
			if t.Failed() {
				t.FailNow()
			}
		}
	}
	if right < 500 || wrong < 500 {
		t.Errorf("%d right and %d wrong heaps are too few of a kind", right, wrong)
	}
}

// TestEveryWordHurt changes each word of a heap in turn.
func TestEveryWordHurt(t *testing.T) {
	for _, flip := range []bool{false, true} {
		h := midHeap(flip)
		for at, was := range h.Words {
			for _, w := range []int64{was - 1, was + 1, was + 2, 1, 2, 61, 4001, -1 << 63, 1<<63 - 1} {
				h.Words[at] = w
				holdsToModel(t, "word "+digits(int64(at))+" is "+digits(w), h)
			}
			h.Words[at] = was
		}
	}
}
