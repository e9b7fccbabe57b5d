package tests

import (
	"slices"
	"testing"

	"loop.example/g00140/impl"
)

// modelPlace says where field i of the object of the word w lies, if there is one.
func modelPlace(h impl.Heap, w int64, i int64) (int64, bool) {
	objects, _ := modelObjects(h)
	for _, at := range objects {
		if ref(at) == w && between(0, i, h.Words[at]-1) {
			return at + 4 + i, true
		}
	}
	return 0, false
}

func modelGet(h impl.Heap, w int64, i int64) (int64, bool) {
	place, is := modelPlace(h, w, i)
	if !is {
		return 0, false
	}
	return h.Words[place], true
}

// modelSet tells Kept of all objects anew.
func modelSet(h impl.Heap, w int64, i int64, x int64) (impl.Heap, bool) {
	objects, _ := modelObjects(h)
	place, is := modelPlace(h, w, i)
	if !is || !modelFits(objects, x) {
		return impl.Heap{}, false
	}
	out := cloneHeap(h)
	out.Words[place] = x
	out.Kept = modelKept(out)
	return out, true
}

// modelKept are the old objects of a laid heap that have a young address.
func modelKept(h impl.Heap) []int64 {
	var out []int64
	objects, fields := thingsOf(h)
	for i, at := range objects {
		isYoung := func(place int64) bool { return h.Words[place]%2 != 0 && h.Words[place] > 4000 }
		if at < 2000 && slices.ContainsFunc(fields[i], isYoung) {
			out = append(out, at)
		}
	}
	return out
}

// modelTold are the class and the hash of w.
func modelTold(h impl.Heap, w int64) [2]int64 {
	objects, is := modelObjects(h)
	if is && w%2 == 0 && between(-2000000000, w, 2000000000) {
		return [2]int64{100, 0}
	}
	for _, at := range objects {
		if ref(at) == w {
			return [2]int64{h.Words[at+1], h.Words[at+2]}
		}
	}
	return [2]int64{-1, -1}
}

func wantGot(t *testing.T, name string, h impl.Heap, w int64, i int64, want int64) {
	t.Helper()
	if x, is := impl.Get(h, w, i); !is || x != want {
		t.Errorf("%s: Get of %d, field %d says %v: %d, not %d", name, w, i, is, x, want)
	}
}

// wantWritten fails unless the field is x then, Kept these, all else as it was, and the heap right.
func wantWritten(t *testing.T, name string, h impl.Heap, at int64, i int64, x int64, kept []int64) impl.Heap {
	t.Helper()
	got, is := impl.Set(h, ref(at), i, x)
	want := cloneHeap(h)
	want.Words[at+4+i], want.Kept = x, kept
	if !is || !sameHeap(got, want) {
		t.Fatalf("%s: Set of %d, field %d to %d says %v: Kept %v, not %v; the words are %v", name, ref(at), i, x, is, got.Kept, kept, slices.Equal(got.Words, want.Words))
	}
	wantGot(t, name, got, ref(at), i, x)
	if !impl.HeapOk(got) {
		t.Errorf("%s: with field %d of %d set to %d it is not right", name, i, at, x)
	}
	return got
}

// wantNoField fails unless Get refuses it, and Set too, whatever it should be set to.
func wantNoField(t *testing.T, name string, h impl.Heap, w int64, i int64) {
	t.Helper()
	defer noPanic(t, name)
	if x, is := impl.Get(h, w, i); is || x != 0 {
		t.Errorf("%s: Get of %d, field %d says %v: %d", name, w, i, is, x)
	}
	for _, x := range []int64{0, num(7), ref(0), ref(2000), -1} {
		wantNotWritten(t, name, h, w, i, x)
	}
}

func wantNotWritten(t *testing.T, name string, h impl.Heap, w int64, i int64, x int64) {
	t.Helper()
	defer noPanic(t, name)
	if got, is := impl.Set(h, w, i, x); is || !isZeroHeap(got) {
		t.Errorf("%s: Set of %d, field %d to %d says %v: %d words, Kept %v", name, w, i, x, is, len(got.Words), got.Kept)
	}
}

// wantTold fails unless w is of this class and has this hash.
func wantTold(t *testing.T, name string, h impl.Heap, w int64, want [2]int64) {
	t.Helper()
	defer noPanic(t, name)
	if got := [2]int64{impl.ClassOf(h, w), impl.HashOf(h, w)}; got != want {
		t.Errorf("%s: class and hash of %d are %v, not %v", name, w, got, want)
	}
}

// midFields are the fields of midHeap, by the objects' addresses.
func midFields(flip bool) map[int64][]int64 {
	if flip {
		return map[int64][]int64{
			0: {4001, -14}, 6: nil, 10: {13, 4002, 21}, 17: {5801},
			2000: {1}, 2005: nil, 2900: {4011, 35}, 2906: nil,
		}
	}
	return map[int64][]int64{
		0: {4001, -14}, 6: nil, 10: {13, 4002, 21}, 17: {5201},
		2000: {1}, 2005: nil, 2600: {4011, 35}, 2606: nil,
	}
}

// largeHeap has an object of 60 fields at the start and at the end of each space, and small ones between; no field is like another, and all are numbers.
func largeHeap(flip bool) impl.Heap {
	row := func(words int64, hash int64) []thing {
		large := func(hash int64) thing {
			fields := make([]int64, 60)
			for i := range fields {
				fields[i] = num(hash*1000 + int64(i))
			}
			return aThing(hash%100, hash, hash%16, fields...)
		}
		return slices.Concat([]thing{large(hash)}, smallest(int(words-128)/4, hash+1), []thing{large(hash + 900)})
	}
	return laidHeap(flip, row(2000, 1), row(600, 2000), row(300, 4000))
}

// largeOnes are the addresses of the large objects of largeHeap.
func largeOnes(flip bool) []int64 {
	if flip {
		return []int64{0, 1936, 2000, 2536, 2900, 3136}
	}
	return []int64{0, 1936, 2000, 2536, 2600, 2836}
}
