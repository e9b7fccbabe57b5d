package tests

import (
	"slices"
	"testing"

	"loop.example/g00140/impl"
)

// holdsToMakeModel fails unless New and Room tell of h what the model tells; it answers the model's heap.
func holdsToMakeModel(t *testing.T, h impl.Heap, class int64, size int64) (impl.Heap, bool) {
	t.Helper()
	wantRoom(t, "drawn", h, modelRoom(h))
	want, word, made := modelNew(h, class, size)
	got, w, is := impl.New(h, class, size)
	if is != made || w != word || !sameHeap(got, want) {
		t.Fatalf("New of class %d, size %d at Eden %d, Hash %d says %v, %d, not %v, %d", class, size, h.Eden, h.Hash, is, w, made, word)
	}
	return want, made
}

// holdsToRootModel does so for AddRoot and SetRoot; it answers the model's heaps, the zero Heap where one is refused.
func holdsToRootModel(t *testing.T, h impl.Heap, i int64, w int64) [2]impl.Heap {
	t.Helper()
	added, can := modelAddRoot(h, w)
	if got, is := impl.AddRoot(h, w); is != can || !sameHeap(got, added) {
		t.Fatalf("AddRoot of %d says %v, not %v: roots %v of %v", w, is, can, got.Roots, h.Roots)
	}
	set, can := modelSetRoot(h, i, w)
	if got, is := impl.SetRoot(h, i, w); is != can || !sameHeap(got, set) {
		t.Fatalf("SetRoot of %d to %d says %v, not %v: roots %v of %v", i, w, is, can, got.Roots, h.Roots)
	}
	return [2]impl.Heap{added, set}
}

// likeNoOther fails unless the object at an address is one that was not there, with a hash that none had, and all that were there are as they were.
func likeNoOther(t *testing.T, was impl.Heap, h impl.Heap, at int64) {
	t.Helper()
	before, after := impl.Objects(was), impl.Objects(h)
	if slices.Contains(before, at) || !slices.Contains(after, at) || len(after) != len(before)+1 {
		t.Fatalf("%d objects, then %d, with a new one at %d", len(before), len(after), at)
	}
	_, _, mine, _ := impl.Header(h, at)
	for _, other := range before {
		size, class, hash, age := impl.Header(h, other)
		wantHeader(t, "ahead of the new one", was, other, [4]int64{size, class, hash, age})
		if hash == mine {
			t.Fatalf("the objects at %d and %d have the hash %d", at, other, hash)
		}
		if !slices.Equal(h.Words[other+4:other+4+size], was.Words[other+4:other+4+size]) {
			t.Fatalf("the fields at %d are others now", other)
		}
	}
}

// sameButHash says whether two graphs are alike but for Hash.
func sameButHash(a impl.Graph, b impl.Graph) bool {
	a.Hash = b.Hash
	return alike(a, b)
}

// TestANewObjectIsLikeNoOther makes objects in drawn heaps: what is reached stays as it was, until a root tells the new one.
func TestANewObjectIsLikeNoOther(t *testing.T) {
	n := numbers(71)
	objects := 0
	for range 60 {
		h := drawnHeap(&n)
		for range 12 {
			class, size := int64(n.below(100)), int64(n.below(61))
			next, w, is := impl.New(h, class, size)
			if !is {
				break
			}
			objects++
			likeNoOther(t, h, next, (w-1)/2)
			before, after := impl.Shape(h), impl.Shape(next)
			if !sameButHash(before, after) || after.Hash != before.Hash+1 || impl.Reached(h) != impl.Reached(next) {
				t.Fatal("the new object changed the graph")
			}
			if len(next.Roots) < 20 {
				told, _ := impl.AddRoot(next, w)
				nodes := impl.Shape(told).Nodes
				if impl.Reached(told) != impl.Reached(next)+4+size || len(nodes) != len(after.Nodes)+1 {
					t.Fatal("the new object is not reached from its root")
				}
			}
			h = next
		}
	}
	if objects < 150 {
		t.Errorf("%d objects are few", objects)
	}
}

// TestRowsOfMakes does one after the other on drawn heaps, and holds each answer against the model.
func TestRowsOfMakes(t *testing.T) {
	n := numbers(72)
	made, refused := 0, 0
	for range 60 {
		h := drawnHeap(&n)
		for range 15 {
			next, is := holdsToMakeModel(t, h, int64(n.below(104))-2, int64(n.below(66))-3)
			if is {
				h = next
				made++
			} else {
				refused++
			}
			for _, next := range holdsToRootModel(t, h, int64(n.below(24))-2, drawnRoot(&n, h)) {
				if len(next.Words) != 0 {
					h = next
				}
			}
		}
	}
	if made < 100 || refused < 100 {
		t.Errorf("%d objects made and %d refused are too few of a kind", made, refused)
	}
}

// drawnRoot is an object's word, one near it, a number, or one at a limit.
func drawnRoot(n *numbers, h impl.Heap) int64 {
	objects, _ := thingsOf(h)
	switch pick := n.below(5); {
	case pick == 0 || len(objects) == 0:
		return num(int64(n.below(2000000001)) - 1000000000)
	case pick == 1:
		return []int64{2000000000, 2000000002, -2000000000, -2000000002, 0, 1, -1, 4001, 5201, 5801, 6399, 6401}[n.below(12)]
	case pick == 2:
		return ref(objects[n.below(len(objects))] + int64(n.below(9)) - 4)
	}
	return ref(objects[n.below(len(objects))])
}

// TestMakesInHurtHeaps asks of heaps of which one number is another.
func TestMakesInHurtHeaps(t *testing.T) {
	n := numbers(73)
	right, wrong := 0, 0
	for range 1500 {
		h := drawnHeap(&n)
		w := drawnRoot(&n, h)
		hurt(&n, &h)
		holdsToMakeModel(t, h, int64(n.below(100)), int64(n.below(20)))
		holdsToRootModel(t, h, int64(n.below(10)), w)
		if modelRoom(h) < 0 {
			wrong++
		} else {
			right++
		}
	}
	if right < 100 || wrong < 100 {
		t.Errorf("%d right and %d wrong heaps are too few of a kind", right, wrong)
	}
}
