package tests

import (
	"slices"
	"testing"

	"loop.example/g00140/impl"
)

// keptHeap has old objects at 0, 7 and 14, young ones at 2000 and 2007, and survivors at 2600 and 2607 (or 300 further on), each with 3 fields that are 0.
func keptHeap(flip bool) impl.Heap {
	row := func(n int, hash int64) []thing {
		var out []thing
		for range n {
			out = append(out, aThing(5, hash, 2, 0, 0, 0))
			hash++
		}
		return out
	}
	return laidHeap(flip, row(3, 1), row(2, 10), row(2, 20))
}

// written is one Set, and Kept as it must be then.
type written struct {
	name     string
	at, i, x int64
	kept     []int64
}

func wantRow(t *testing.T, h impl.Heap, row []written) impl.Heap {
	t.Helper()
	for _, r := range row {
		h = wantWritten(t, r.name, h, r.at, r.i, r.x, r.kept)
	}
	return h
}

// TestKeptOfOneObject goes on from step to step with one old object.
func TestKeptOfOneObject(t *testing.T) {
	wantRow(t, keptHeap(false), []written{
		{"an old address", 7, 0, ref(14), nil},
		{"the first young address", 7, 1, ref(2000), []int64{7}},
		{"the same one again", 7, 1, ref(2000), []int64{7}},
		{"another one in its place", 7, 1, ref(2007), []int64{7}},
		{"a second one", 7, 0, ref(2600), []int64{7}},
		{"a third one", 7, 2, ref(2607), []int64{7}},
		{"a number for the first", 7, 0, num(2600), []int64{7}},
		{"an old address for the second", 7, 1, ref(0), []int64{7}},
		{"a number for the last one", 7, 2, num(2607), nil},
		{"another number", 7, 2, num(-1), nil},
		{"a young one once more", 7, 2, ref(2607), []int64{7}},
		{"its own address for the last one", 7, 2, ref(7), nil},
	})
}

// TestKeptRises has objects that come to it and go from it in every order.
func TestKeptRises(t *testing.T) {
	orders := [][]int64{{0, 7, 14}, {0, 14, 7}, {7, 0, 14}, {7, 14, 0}, {14, 0, 7}, {14, 7, 0}}
	for _, come := range orders {
		for _, leave := range orders {
			h := keptHeap(true)
			var kept []int64
			for _, at := range come {
				kept = append(slices.Clone(kept), at)
				slices.Sort(kept)
				h = wantWritten(t, "come", h, at, 2, ref(2900), kept)
			}
			for _, at := range leave {
				kept = slices.DeleteFunc(slices.Clone(kept), func(k int64) bool { return k == at })
				h = wantWritten(t, "left", h, at, 2, num(1), kept)
			}
			if !sameHeap(h, wantRow(t, keptHeap(true), []written{{"", 0, 2, 2, nil}, {"", 7, 2, 2, nil}, {"", 14, 2, 2, nil}})) {
				t.Error("the heap is another one")
			}
		}
	}
}

// TestYoungOnesDoNotComeToKept sets young objects to young and old addresses.
func TestYoungOnesDoNotComeToKept(t *testing.T) {
	wantRow(t, keptHeap(false), []written{
		{"a young one in a young one", 2000, 0, ref(2007), nil},
		{"itself", 2000, 1, ref(2000), nil},
		{"a survivor in a young one", 2007, 2, ref(2607), nil},
		{"a young one in a survivor", 2600, 0, ref(2000), nil},
		{"a survivor in a survivor", 2607, 1, ref(2600), nil},
		{"an old one", 0, 0, ref(2600), []int64{0}},
		{"an old one in a young one", 2000, 0, ref(0), []int64{0}},
		{"a young one in it again", 2000, 0, ref(2007), []int64{0}},
		{"an old one in a survivor", 2600, 0, ref(14), []int64{0}},
	})
}

// TestYoungOfEachSpace has each young object as the one that makes an old one kept.
func TestYoungOfEachSpace(t *testing.T) {
	for _, flip := range []bool{false, true} {
		h := largeHeap(flip)
		objects, _ := thingsOf(h)
		for _, x := range objects {
			var kept []int64
			if x >= 2000 {
				kept = []int64{1936}
			}
			wantWritten(t, "to "+digits(x), h, 1936, 59, ref(x), kept)
		}
	}
}

// TestKeptOfEachOldObject has each old object as the one that comes to be kept, and leaves again.
func TestKeptOfEachOldObject(t *testing.T) {
	var old []thing
	for i := range int64(400) {
		old = append(old, aThing(0, i+1, 0, num(i)))
	}
	h := laidHeap(false, old, []thing{aThing(0, 500, 0)}, nil)
	var kept []int64
	for k := range int64(400) {
		at := k * 171 % 400 * 5
		kept = append(kept, at)
		slices.Sort(kept)
		next, is := impl.Set(h, ref(at), 0, ref(2000))
		if !is || !slices.Equal(next.Kept, kept) {
			t.Fatalf("%v: %d are kept, not %d", is, len(next.Kept), len(kept))
		}
		h = next
	}
	for k := range int64(400) {
		at := k * 129 % 400 * 5
		kept = slices.DeleteFunc(slices.Clone(kept), func(n int64) bool { return n == at })
		h = wantWritten(t, "left", h, at, 0, num(at/5), kept)
	}
	if !sameHeap(h, laidHeap(false, old, []thing{aThing(0, 500, 0)}, nil)) {
		t.Error("the heap is another one")
	}
}

// TestNumbersAreNotYoung sets numbers whose words lie among those of young addresses, and which halved are young addresses.
func TestNumbersAreNotYoung(t *testing.T) {
	for _, x := range []int64{4000, 4002, 4014, 5200, 5202, 6398, num(2000), num(2007), num(2600), num(4001), 2000000000} {
		wantWritten(t, "a number", keptHeap(false), 0, 1, x, nil)
		wantRow(t, keptHeap(false), []written{{"a young one", 0, 1, ref(2000), []int64{0}}, {"a number for it", 0, 1, x, nil}})
	}
}

// TestOtherKeptOnesStay has kept objects on both sides of the one that is set.
func TestOtherKeptOnesStay(t *testing.T) {
	wantRow(t, keptHeap(false), []written{
		{"the last one", 14, 0, ref(2000), []int64{14}},
		{"the first one", 0, 0, ref(2000), []int64{0, 14}},
		{"one that is not kept", 7, 0, num(4), []int64{0, 14}},
		{"the one between", 7, 1, ref(2007), []int64{0, 7, 14}},
		{"a second one there", 7, 2, ref(2600), []int64{0, 7, 14}},
		{"one of two gone", 7, 1, ref(0), []int64{0, 7, 14}},
		{"both gone", 7, 2, ref(0), []int64{0, 14}},
		{"the last one gone", 14, 0, ref(7), []int64{0}},
		{"the first one gone", 0, 0, 0, nil},
	})
}
