package tests

import (
	"slices"
	"testing"

	"loop.example/g00140/impl"
)

// became is all that the chapter's functions tell of a heap and two words.
type became struct {
	is       bool
	forward  impl.Heap
	exchange impl.Heap
	first    []int64 // the referrers of a
	second   []int64 // those of b
}

// modelBecome says the chapter again by a list of what becomes what.
func modelBecome(h impl.Heap, a int64, b int64) became {
	objects, _ := modelObjects(h)
	out := became{first: modelReferrers(h, a), second: modelReferrers(h, b)}
	if !modelMeans(objects, a) || !modelMeans(objects, b) {
		return out
	}
	out.is = true
	out.forward = modelChanged(h, map[int64]int64{a: b})
	out.exchange = modelChanged(h, map[int64]int64{a: b, b: a})
	return out
}

// modelMeans says whether w is the address of one of the objects.
func modelMeans(objects []int64, w int64) bool {
	return slices.ContainsFunc(objects, func(at int64) bool { return ref(at) == w })
}

// modelChanged changes each place by what it was in h, and tells Kept anew.
func modelChanged(h impl.Heap, to map[int64]int64) impl.Heap {
	out := cloneHeap(h)
	_, fields := thingsOf(h)
	for _, place := range slices.Concat(fields...) {
		if w, is := to[h.Words[place]]; is {
			out.Words[place] = w
		}
	}
	for i, root := range h.Roots {
		if w, is := to[root]; is {
			out.Roots[i] = w
		}
	}
	out.Kept = modelKept(out)
	return out
}

// modelReferrers asks of each word of each object whether it is w.
func modelReferrers(h impl.Heap, w int64) []int64 {
	objects, is := modelObjects(h)
	if !is || !modelMeans(objects, w) {
		return nil
	}
	var out []int64
	for _, at := range objects {
		for i := range h.Words[at] {
			if h.Words[at+4+i] == w && !slices.Contains(out, at) {
				out = append(out, at)
			}
		}
	}
	return out
}

// wantBecome fails unless the three functions tell just this.
func wantBecome(t *testing.T, name string, h impl.Heap, a int64, b int64, want became) {
	t.Helper()
	defer noPanic(t, name)
	got, is := impl.Forward(h, a, b)
	if is != want.is || !sameHeap(got, want.forward) {
		t.Errorf("%s: Forward of %d to %d says %v: %s; not %v: %s", name, a, b, is, heapText(got), want.is, heapText(want.forward))
	}
	got, is = impl.Exchange(h, a, b)
	if is != want.is || !sameHeap(got, want.exchange) {
		t.Errorf("%s: Exchange of %d and %d says %v: %s; not %v: %s", name, a, b, is, heapText(got), want.is, heapText(want.exchange))
	}
	wantReferrers(t, name, h, a, want.first...)
	wantReferrers(t, name, h, b, want.second...)
}

// holdsToBecomeModel fails unless the functions tell what the model tells, and what is promised; it answers what the model tells.
func holdsToBecomeModel(t *testing.T, name string, h impl.Heap, a int64, b int64) became {
	t.Helper()
	want := modelBecome(h, a, b)
	wantBecome(t, name, h, a, b, want)
	if want.is {
		wantForwarded(t, name, h, a, b, want.forward)
		wantExchanged(t, name, h, a, b, want.exchange)
	}
	if t.Failed() {
		t.FailNow()
	}
	return want
}

// wantForward fails unless Forward answers this heap, and keeps the promise; it answers that heap.
func wantForward(t *testing.T, name string, h impl.Heap, a int64, b int64, want impl.Heap) impl.Heap {
	t.Helper()
	got, is := impl.Forward(h, a, b)
	if !is || !sameHeap(got, want) {
		t.Fatalf("%s: Forward of %d to %d says %v: %s; not %s", name, a, b, is, heapText(got), heapText(want))
	}
	wantForwarded(t, name, h, a, b, got)
	return got
}

// wantExchange does so for Exchange.
func wantExchange(t *testing.T, name string, h impl.Heap, a int64, b int64, want impl.Heap) impl.Heap {
	t.Helper()
	got, is := impl.Exchange(h, a, b)
	if !is || !sameHeap(got, want) {
		t.Fatalf("%s: Exchange of %d and %d says %v: %s; not %s", name, a, b, is, heapText(got), heapText(want))
	}
	wantExchanged(t, name, h, a, b, got)
	return got
}

// wantForwarded fails unless nothing refers to a then, what referred to either refers to b, and the heap is right; of one with itself it is the heap as it was.
func wantForwarded(t *testing.T, name string, h impl.Heap, a int64, b int64, then impl.Heap) {
	t.Helper()
	wantStill(t, name, h, then)
	if a == b {
		if !sameHeap(then, h) {
			t.Fatalf("%s: Forward of %d to itself: %s, not %s", name, a, heapText(then), heapText(h))
		}
		return
	}
	either := slices.Concat(impl.Referrers(h, a), impl.Referrers(h, b))
	slices.Sort(either)
	wantReferrers(t, name, then, a)
	wantReferrers(t, name, then, b, slices.Compact(either)...)
	if slices.Contains(then.Roots, a) {
		t.Fatalf("%s: %d is a root still: %v", name, a, then.Roots)
	}
	if again, is := impl.Forward(then, a, b); !is || !sameHeap(again, then) {
		t.Fatalf("%s: Forward of %d to %d again says %v: %s, not %s", name, a, b, is, heapText(again), heapText(then))
	}
}

// wantExchanged fails unless each has the other's referrers, exchanged again it is the heap, and the heap is right.
func wantExchanged(t *testing.T, name string, h impl.Heap, a int64, b int64, then impl.Heap) {
	t.Helper()
	wantStill(t, name, h, then)
	wantReferrers(t, name, then, a, impl.Referrers(h, b)...)
	wantReferrers(t, name, then, b, impl.Referrers(h, a)...)
	for _, turned := range [][2]int64{{a, b}, {b, a}} {
		if back, is := impl.Exchange(then, turned[0], turned[1]); !is || !sameHeap(back, h) {
			t.Fatalf("%s: Exchange of Exchange of %d and %d says %v: %s, not %s", name, a, b, is, heapText(back), heapText(h))
		}
	}
}

// wantStill fails unless the heap is right, with the objects, headers and ends that it had.
func wantStill(t *testing.T, name string, h impl.Heap, then impl.Heap) {
	t.Helper()
	objects := impl.Objects(h)
	if !impl.HeapOk(then) || !slices.Equal(impl.Objects(then), objects) || len(then.Roots) != len(h.Roots) {
		t.Fatalf("%s: then it is not right, or has other objects: %s, not %s", name, heapText(then), heapText(h))
	}
	if then.Old != h.Old || then.Eden != h.Eden || then.Surv != h.Surv || then.Flip != h.Flip || then.Hash != h.Hash {
		t.Fatalf("%s: then it ends elsewhere: %s, not %s", name, heapText(then), heapText(h))
	}
	for _, at := range objects {
		if !slices.Equal(then.Words[at:at+4], h.Words[at:at+4]) {
			t.Fatalf("%s: the header at %d is %v, and was %v", name, at, then.Words[at:at+4], h.Words[at:at+4])
		}
	}
}

func wantReferrers(t *testing.T, name string, h impl.Heap, w int64, want ...int64) {
	t.Helper()
	defer noPanic(t, name)
	if got := impl.Referrers(h, w); !slices.Equal(got, want) {
		t.Errorf("%s: the referrers of %d are %v, not %v", name, w, got, want)
	}
}

// wantNotBecome fails unless Forward and Exchange refuse it, in either order.
func wantNotBecome(t *testing.T, name string, h impl.Heap, a int64, b int64) {
	t.Helper()
	defer noPanic(t, name)
	for _, pair := range [][2]int64{{a, b}, {b, a}} {
		if got, is := impl.Forward(h, pair[0], pair[1]); is || !isZeroHeap(got) {
			t.Errorf("%s: Forward of %d to %d says %v: %s", name, pair[0], pair[1], is, heapText(got))
		}
		if got, is := impl.Exchange(h, pair[0], pair[1]); is || !isZeroHeap(got) {
			t.Errorf("%s: Exchange of %d and %d says %v: %s", name, pair[0], pair[1], is, heapText(got))
		}
	}
}

// sown has three objects of three fields in each space. These have the words first and second, and so have the roots, where the choice has a bit for it (two bits for each space, and two for the roots), and numbers elsewhere.
func sown(flip bool, choice int, first int64, second int64) impl.Heap {
	pick := func(bit int, w int64) int64 {
		if choice>>bit&1 == 1 {
			return w
		}
		return num(int64(bit))
	}
	row := func(bit int, hash int64) []thing {
		var out []thing
		for i := range int64(3) {
			out = append(out, aThing(hash, hash+i, i, pick(bit, first), num(77), pick(bit+1, second)))
		}
		return out
	}
	h := laidHeap(flip, row(0, 1), row(2, 10), row(4, 20))
	return ended(h, pick(6, first), num(77), pick(7, second), pick(6, first))
}

// drawnPair are two objects' words, now and then the same one, or one like an object's.
func drawnPair(n *numbers, h impl.Heap) (int64, int64) {
	objects, _ := thingsOf(h)
	if len(objects) == 0 || n.below(6) == 0 {
		return drawnRoot(n, h), drawnRoot(n, h)
	}
	a, b := ref(objects[n.below(len(objects))]), ref(objects[n.below(len(objects))])
	if n.below(10) == 0 {
		b = a
	}
	return a, b
}
