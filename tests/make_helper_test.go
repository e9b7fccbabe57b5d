package tests

import (
	"slices"
	"testing"

	"loop.example/g00140/impl"
)

// modelNew says the chapter again: the header and the noughts are laid down as a thing.
func modelNew(h impl.Heap, class int64, size int64) (impl.Heap, int64, bool) {
	_, is := modelObjects(h)
	if !is || !between(0, class, 99) || !between(0, size, 60) || h.Hash >= 1000000000 || h.Eden+4+size > 2600 {
		return impl.Heap{}, 0, false
	}
	out := cloneHeap(h)
	out.Eden = lay(out.Words, h.Eden, []thing{aThing(class, h.Hash, 0, make([]int64, size)...)})
	out.Hash = h.Hash + 1
	return out, ref(h.Eden), true
}

func modelRoom(h impl.Heap) int64 {
	if _, is := modelObjects(h); !is {
		return -1
	}
	return 2600 - h.Eden
}

// modelFits says whether a root of a right heap with these objects may be w.
func modelFits(objects []int64, w int64) bool {
	if w%2 == 0 {
		return between(-2000000000, w, 2000000000)
	}
	return slices.ContainsFunc(objects, func(at int64) bool { return ref(at) == w })
}

func modelAddRoot(h impl.Heap, w int64) (impl.Heap, bool) {
	objects, is := modelObjects(h)
	if !is || !modelFits(objects, w) || len(h.Roots) >= 20 {
		return impl.Heap{}, false
	}
	out := cloneHeap(h)
	out.Roots = slices.Concat(h.Roots, []int64{w})
	return out, true
}

func modelSetRoot(h impl.Heap, i int64, w int64) (impl.Heap, bool) {
	objects, is := modelObjects(h)
	if !is || !modelFits(objects, w) || !between(0, i, int64(len(h.Roots))-1) {
		return impl.Heap{}, false
	}
	out := cloneHeap(h)
	out.Roots = slices.Concat(h.Roots[:i], []int64{w}, h.Roots[i+1:])
	return out, true
}

// wantMade fails unless New makes an object there, which is as the chapter tells, and leaves all else as it was.
func wantMade(t *testing.T, name string, h impl.Heap, class int64, size int64) impl.Heap {
	t.Helper()
	got, w, is := impl.New(h, class, size)
	if !is || w != ref(h.Eden) || got.Eden != h.Eden+4+size || got.Hash != h.Hash+1 {
		t.Fatalf("%s: New of class %d, size %d says %v: the word is %d, Eden %d, Hash %d", name, class, size, is, w, got.Eden, got.Hash)
	}
	made := slices.Concat([]int64{size, class, h.Hash, 0}, make([]int64, size))
	if there := got.Words[h.Eden:got.Eden]; !slices.Equal(there, made) {
		t.Errorf("%s: the new object is %v, not %v", name, there, made)
	}
	wantHeader(t, name, got, h.Eden, [4]int64{size, class, h.Hash, 0})
	rest := cloneHeap(got)
	clear(rest.Words[h.Eden:got.Eden])
	rest.Eden, rest.Hash = h.Eden, h.Hash
	if !sameHeap(rest, h) {
		t.Errorf("%s: New of class %d, size %d changed more than it should", name, class, size)
	}
	if !impl.HeapOk(got) {
		t.Errorf("%s: with a new object of class %d, size %d it is not right", name, class, size)
	}
	return got
}

func wantNotMade(t *testing.T, name string, h impl.Heap, class int64, size int64) {
	t.Helper()
	defer noPanic(t, name)
	if got, w, is := impl.New(h, class, size); is || w != 0 || !isZeroHeap(got) {
		t.Errorf("%s: New of class %d, size %d says %v: the word is %d, %d words, Eden %d", name, class, size, is, w, len(got.Words), got.Eden)
	}
}

func wantRoom(t *testing.T, name string, h impl.Heap, want int64) {
	t.Helper()
	defer noPanic(t, name)
	if got := impl.Room(h); got != want {
		t.Errorf("%s: there is room for %d words, not %d", name, got, want)
	}
}

// wantRoots fails unless the answer is h with these roots, and right.
func wantRoots(t *testing.T, name string, got impl.Heap, is bool, h impl.Heap, roots []int64) {
	t.Helper()
	if !is || !slices.Equal(got.Roots, roots) {
		t.Errorf("%s: it says %v: the roots are %v, not %v", name, is, got.Roots, roots)
		return
	}
	if !sameHeap(rooted(got, h.Roots...), h) {
		t.Errorf("%s: more than a root was changed", name)
	}
	if !impl.HeapOk(got) {
		t.Errorf("%s: it is not right", name)
	}
}

// wantNotAdded and wantNotSet fail unless the root is refused.
func wantNotAdded(t *testing.T, name string, h impl.Heap, w int64) {
	t.Helper()
	defer noPanic(t, name)
	if got, is := impl.AddRoot(h, w); is || !isZeroHeap(got) {
		t.Errorf("%s: AddRoot of %d says %v: %d words, roots %v", name, w, is, len(got.Words), got.Roots)
	}
}

func wantNotSet(t *testing.T, name string, h impl.Heap, i int64, w int64) {
	t.Helper()
	defer noPanic(t, name)
	if got, is := impl.SetRoot(h, i, w); is || !isZeroHeap(got) {
		t.Errorf("%s: SetRoot of %d to %d says %v: %d words, roots %v", name, i, w, is, len(got.Words), got.Roots)
	}
}

// placedHeaps have objects in none of the spaces, in each, and in all.
func placedHeaps() []namedHeap {
	one := []thing{aThing(99, 1, 15, num(3), num(-4))}
	return []namedHeap{
		{"new", impl.NewHeap()},
		{"new, the other survivors", laidHeap(true, nil, nil, nil)},
		{"old", laidHeap(false, one, nil, nil)},
		{"eden", laidHeap(false, nil, one, nil)},
		{"survivors", laidHeap(false, nil, nil, one)},
		{"the other survivors", laidHeap(true, nil, nil, one)},
		{"all", midHeap(false)},
		{"all, the other survivors", midHeap(true)},
		{"full but for eden", laidHeap(false, filled(2000, 1), nil, filled(300, 100))},
		{"full but for eden, the other survivors", laidHeap(true, filled(2000, 1), nil, filled(300, 100))},
	}
}

// edenLeft is a heap with objects in all spaces of whose eden so many words are left.
func edenLeft(words int64) impl.Heap {
	return laidHeap(false, filled(40, 1), filled(600-words, 10), filled(50, 100))
}
