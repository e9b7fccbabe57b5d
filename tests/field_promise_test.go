package tests

import (
	"slices"
	"testing"

	"loop.example/g00140/impl"
)

// holdsToFieldModel fails unless all four functions tell of h what the model tells; it answers the model's heap.
func holdsToFieldModel(t *testing.T, h impl.Heap, w int64, i int64, x int64) (impl.Heap, bool) {
	t.Helper()
	wantTold(t, "drawn", h, w, modelTold(h, w))
	wantTold(t, "drawn", h, x, modelTold(h, x))
	there, has := modelGet(h, w, i)
	if got, is := impl.Get(h, w, i); is != has || got != there {
		t.Fatalf("Get of %d, field %d says %v, %d, not %v, %d", w, i, is, got, has, there)
	}
	want, can := modelSet(h, w, i, x)
	if got, is := impl.Set(h, w, i, x); is != can || !sameHeap(got, want) {
		t.Fatalf("Set of %d, field %d to %d says %v, not %v: Kept %v, not %v", w, i, x, is, can, got.Kept, want.Kept)
	}
	return want, can
}

// drawnField is an object's word (or one like it), and a field that it has or nearly has.
func drawnField(n *numbers, h impl.Heap) (int64, int64) {
	objects, fields := thingsOf(h)
	if len(objects) == 0 || n.below(8) == 0 {
		return drawnRoot(n, h), int64(n.below(5)) - 1
	}
	k := n.below(len(objects))
	return ref(objects[k]), int64(n.below(len(fields[k])+2)) - 1
}

// TestWhatIsSetIsGot sets fields of drawn heaps: that one is got, all others are as they were, and the heap stays right.
func TestWhatIsSetIsGot(t *testing.T) {
	n := numbers(81)
	done := 0
	for range 80 {
		h := drawnHeap(&n)
		for range 10 {
			w, i := drawnField(&n, h)
			x := drawnRoot(&n, h)
			next, is := impl.Set(h, w, i, x)
			if !is {
				continue
			}
			done++
			if !slices.Equal(impl.Objects(next), impl.Objects(h)) || !impl.HeapOk(next) {
				t.Fatal("the objects are others now")
			}
			allButOne(t, h, next, w, i, x)
			h = next
		}
	}
	if done < 150 {
		t.Errorf("%d fields are few", done)
	}
}

// allButOne fails unless field i of w is x, and every other field of every object as it was.
func allButOne(t *testing.T, was impl.Heap, h impl.Heap, w int64, i int64, x int64) {
	t.Helper()
	for _, at := range impl.Objects(was) {
		size, class, hash, age := impl.Header(was, at)
		wantHeader(t, "a field was set", h, at, [4]int64{size, class, hash, age})
		for k := range size {
			want := was.Words[at+4+k]
			if ref(at) == w && k == i {
				want = x
			}
			if h.Words[at+4+k] != want {
				t.Fatalf("field %d at %d is %d, not %d", k, at, h.Words[at+4+k], want)
			}
		}
	}
	wantGot(t, "drawn", h, w, i, x)
}

// TestRowsOfSets sets one field after the other, and holds each answer against the model.
func TestRowsOfSets(t *testing.T) {
	n := numbers(82)
	done, refused := 0, 0
	for range 60 {
		h := drawnHeap(&n)
		for range 25 {
			w, i := drawnField(&n, h)
			next, is := holdsToFieldModel(t, h, w, i, drawnRoot(&n, h))
			if !is {
				refused++
				continue
			}
			done++
			h = next
		}
	}
	if done < 300 || refused < 300 {
		t.Errorf("%d fields set and %d refused are too few of a kind", done, refused)
	}
}

// TestRowsOfSetsInASmallHeap has few objects, so that they come to be kept and leave again and again.
func TestRowsOfSetsInASmallHeap(t *testing.T) {
	n := numbers(83)
	changes := 0
	for _, flip := range []bool{false, true} {
		h := keptHeap(flip)
		objects, _ := thingsOf(h)
		for range 1500 {
			x := num(int64(n.below(5000)))
			if n.below(2) == 0 {
				x = ref(objects[n.below(len(objects))])
			}
			next, is := holdsToFieldModel(t, h, ref(objects[n.below(len(objects))]), int64(n.below(3)), x)
			if !is {
				t.Fatal("it was refused")
			}
			if !slices.Equal(next.Kept, h.Kept) {
				changes++
			}
			h = next
		}
	}
	if changes < 200 {
		t.Errorf("Kept was another one %d times", changes)
	}
}

// TestSetBackIsTheHeap sets a field, and then sets it to what it was.
func TestSetBackIsTheHeap(t *testing.T) {
	n := numbers(84)
	for range 200 {
		h := drawnHeap(&n)
		w, i := drawnField(&n, h)
		was, has := impl.Get(h, w, i)
		next, is := impl.Set(h, w, i, drawnRoot(&n, h))
		if is && !has {
			t.Fatal("a field was set that could not be got")
		}
		if !is {
			continue
		}
		if back, is := impl.Set(next, w, i, was); !is || !sameHeap(back, h) {
			t.Fatalf("%v: set back, it is another heap: Kept %v, not %v", is, back.Kept, h.Kept)
		}
	}
}

// TestSetsInEitherOrder sets two fields in both orders.
func TestSetsInEitherOrder(t *testing.T) {
	n := numbers(85)
	done := 0
	for range 300 {
		h := drawnHeap(&n)
		w, i := drawnField(&n, h)
		v, k := drawnField(&n, h)
		x, y := drawnRoot(&n, h), drawnRoot(&n, h)
		first, one := impl.Set(h, w, i, x)
		second, two := impl.Set(h, v, k, y)
		if !one || !two || w == v && i == k {
			continue
		}
		done++
		there, _ := impl.Set(first, v, k, y)
		back, _ := impl.Set(second, w, i, x)
		if !sameHeap(there, back) || isZeroHeap(there) {
			t.Fatal("the order shows")
		}
	}
	if done < 20 {
		t.Errorf("%d pairs are few", done)
	}
}

// TestFieldsInHurtHeaps asks of heaps of which one number is another.
func TestFieldsInHurtHeaps(t *testing.T) {
	n := numbers(86)
	right, wrong := 0, 0
	for range 1500 {
		h := drawnHeap(&n)
		w, i := drawnField(&n, h)
		x := drawnRoot(&n, h)
		hurt(&n, &h)
		holdsToFieldModel(t, h, w, i, x)
		if modelRoom(h) < 0 {
			wrong++
		} else {
			right++
		}
	}
	if right < 100 || wrong < 100 {
		t.Errorf("%d right and %d wrong heaps are too few of a kind", right, wrong)
	}
}
