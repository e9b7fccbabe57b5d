package tests

import (
	"slices"
	"testing"

	"loop.example/g00140/impl"
)

// TestScavengedHeapsHaveTheSameGraph holds drawn heaps against the model, and what it tells against each other.
func TestScavengedHeapsHaveTheSameGraph(t *testing.T) {
	n := numbers(91)
	done, refused, promoted, stayed, left := 0, 0, 0, 0, 0
	for range 600 {
		h := drawnYoung(&n)
		want := modelScavenge(h)
		wantScavenge(t, "drawn", h, want)
		if !want.is {
			refused++
			continue
		}
		done++
		then, _ := impl.Scavenge(h)
		wantSameGraph(t, "drawn", h, then)
		tellsTheSame(t, h, then)
		if impl.Promote(h) > 0 {
			promoted++
		}
		if impl.Young(then) > 0 {
			stayed++
		}
		if impl.Survivors(h) < impl.Young(h) {
			left++
		}
	}
	if done < 200 || refused < 50 || promoted < 100 || stayed < 100 || left < 100 {
		t.Errorf("%d done, %d refused, %d with promoted ones, %d with young ones, %d with ones that are gone: too few of a kind", done, refused, promoted, stayed, left)
	}
}

// tellsTheSame holds the counts against what was done, and each object that is left against what it was, by its hash.
func tellsTheSame(t *testing.T, h impl.Heap, then impl.Heap) {
	t.Helper()
	old := int64(len(impl.Objects(h))) - impl.Young(h)
	survivors, promoted := impl.Survivors(h), impl.Promote(h)
	if impl.Young(then) != survivors-promoted || int64(len(impl.Objects(then))) != old+survivors || impl.Reached(then) != impl.Reached(h) {
		t.Fatalf("of %d old and %d young objects %d were moved, %d to the old space: %s", old, impl.Young(h), survivors, promoted, heapText(then))
	}
	was := map[int64][4]int64{}
	for _, at := range impl.Objects(h) {
		was[h.Words[at+2]] = [4]int64{h.Words[at], h.Words[at+1], h.Words[at+3], at}
	}
	for _, at := range impl.Objects(then) {
		one := was[then.Words[at+2]]
		age := one[2]
		if one[3] >= 2000 {
			age = min(age+1, 15)
		}
		if then.Words[at] != one[0] || then.Words[at+1] != one[1] || then.Words[at+3] != age || one[3] < 2000 && one[3] != at {
			t.Fatalf("the object at %d is %v, and was %v", at, then.Words[at:at+4], one)
		}
	}
}

// TestRowsOfScavenges scavenges drawn heaps again and again, and holds each answer against the model.
func TestRowsOfScavenges(t *testing.T) {
	n := numbers(92)
	done := 0
	for range 100 {
		h := drawnYoung(&n)
		for range 5 {
			want := modelScavenge(h)
			wantScavenge(t, "a row", h, want)
			if !want.is {
				break
			}
			done++
			wantSameGraph(t, "a row", h, want.heap)
			h = want.heap
		}
	}
	if done < 150 {
		t.Errorf("%d scavenges are few", done)
	}
}

// TestRowsOfChangesAndScavenges makes, sets and scavenges, step by step, from a new heap until the old space is full.
func TestRowsOfChangesAndScavenges(t *testing.T) {
	n := numbers(93)
	scavenges, full, promoted := 0, 0, int64(0)
	for range 25 {
		h := impl.NewHeap()
		for range 8 {
			h, _ = impl.AddRoot(h, num(0))
		}
		for range 600 {
			next, is := drawnChange(&n, h)
			if is {
				h = next
			}
			if is && n.below(25) > 0 {
				continue
			}
			want := modelScavenge(h)
			wantScavenge(t, "a step", h, want)
			if !want.is {
				full++
				break
			}
			scavenges++
			promoted += want.promoted
			wantSameGraph(t, "a step", h, want.heap)
			h = want.heap
		}
	}
	if scavenges < 200 || full < 3 || promoted < 300 {
		t.Errorf("%d scavenges, %d full old spaces and %d promoted objects are too few of a kind", scavenges, full, promoted)
	}
}

// drawnChange makes an object and puts it to a root, or sets a field or a root; it says false where eden has no room.
func drawnChange(n *numbers, h impl.Heap) (impl.Heap, bool) {
	objects := impl.Objects(h)
	root := int64(n.below(len(h.Roots)))
	switch pick := n.below(4); {
	case pick == 0 || len(objects) == 0:
		next, w, is := impl.New(h, int64(n.below(100)), int64(n.below(61)))
		if !is {
			return h, false
		}
		return impl.SetRoot(next, root, w)
	case pick == 1 && n.below(4) == 0:
		return impl.SetRoot(h, root, num(int64(n.below(5000))))
	}
	at := objects[n.below(len(objects))]
	x := ref(objects[n.below(len(objects))])
	if n.below(3) == 0 {
		x = num(int64(n.below(5000)))
	}
	next, is := impl.Set(h, ref(at), int64(n.below(3)), x)
	if !is {
		return h, true
	}
	return next, true
}

// TestScavengedThreeTimesAllIsOld has room for all: nothing is young then, and one more changes nothing but the survivors in use.
func TestScavengedThreeTimesAllIsOld(t *testing.T) {
	n := numbers(94)
	done := 0
	for range 150 {
		h := drawnYoung(&n)
		if h.Old > 1000 {
			continue
		}
		done++
		for range 3 {
			then, is := impl.Scavenge(h)
			if !is {
				t.Fatal("there is no room")
			}
			wantSameGraph(t, "three times", h, then)
			h = then
		}
		if impl.Young(h) != 0 || len(h.Kept) != 0 || impl.Survivors(h) != 0 {
			t.Fatalf("there are young ones still: %s", heapText(h))
		}
		want := cloneHeap(h)
		want.Flip, want.Surv = !h.Flip, otherSurvivors(h.Flip)
		wantMoved(t, "once more", h, want, 0, 0)
	}
	if done < 50 {
		t.Errorf("%d heaps are few", done)
	}
}

// TestOnlyReachedYoungOnesLiveOn has no old object: the young ones that are left are just those of the Shape.
func TestOnlyReachedYoungOnesLiveOn(t *testing.T) {
	n := numbers(95)
	done := 0
	for range 300 {
		h := drawnYoung(&n)
		if h.Old != 0 {
			continue
		}
		done++
		then, is := impl.Scavenge(h)
		if !is {
			t.Fatal("there is no room")
		}
		nodes := int64(len(impl.Shape(h).Nodes))
		words := then.Old + then.Surv - otherSurvivors(h.Flip)
		if impl.Survivors(h) != nodes || int64(len(impl.Objects(then))) != nodes || impl.Reached(h) != words {
			t.Fatalf("of %d that are reached %d were moved, %d words: %s", nodes, impl.Survivors(h), words, heapText(then))
		}
		left := []int64{}
		for _, x := range impl.Shape(h).Nodes {
			left = append(left, x.Hash)
		}
		got := append(hashesFrom(then, 0, then.Old), hashesFrom(then, otherSurvivors(h.Flip), then.Surv)...)
		slices.Sort(left)
		slices.Sort(got)
		if !slices.Equal(left, got) {
			t.Fatalf("%v live on, not %v", got, left)
		}
	}
	if done < 30 {
		t.Errorf("%d heaps are few", done)
	}
}

// TestEdenIsFreeThen makes objects where others lay: nothing of those is left.
func TestEdenIsFreeThen(t *testing.T) {
	n := numbers(96)
	for range 60 {
		h, is := impl.Scavenge(drawnYoung(&n))
		if !is {
			continue
		}
		wantRoom(t, "eden is free", h, 600)
		for _, size := range []int64{60, 60, 0, 7} {
			h = wantMade(t, "eden is free", h, 3, size)
		}
	}
}

// TestScavengesOfHurtHeaps asks of heaps of which one number is another.
func TestScavengesOfHurtHeaps(t *testing.T) {
	n := numbers(97)
	right, wrong := 0, 0
	for range 1500 {
		h := drawnYoung(&n)
		hurt(&n, &h)
		want := modelScavenge(h)
		wantScavenge(t, "hurt", h, want)
		if want.survivors < 0 {
			wrong++
		} else {
			right++
		}
	}
	if right < 100 || wrong < 100 {
		t.Errorf("%d right and %d wrong heaps are too few of a kind", right, wrong)
	}
}

// TestWrongHeapsAreNotScavenged has one for every rule that a heap may break.
func TestWrongHeapsAreNotScavenged(t *testing.T) {
	wantNotMoved(t, "zero heap", impl.Heap{}, -1)
	for _, c := range wrongHeaps() {
		wantNotMoved(t, c.name, c.heap, -1)
	}
}

// TestRightHeapsAtTheirLimits has full spaces, 20 roots, and the greatest of all numbers.
func TestRightHeapsAtTheirLimits(t *testing.T) {
	for _, c := range slices.Concat(placedHeaps(), []namedHeap{
		{"full eden", edenLeft(0)}, {"20 roots", manyRoots(true, 20)}, {"none kept", keptHeap(false)},
		{"large ones", largeHeap(true)}, {"large ones, the other survivors", largeHeap(false)},
	}) {
		want := modelScavenge(c.heap)
		if want.survivors < 0 {
			t.Errorf("%s: the test's own heap is not right", c.name)
		}
		wantScavenge(t, c.name, c.heap, want)
	}
}
