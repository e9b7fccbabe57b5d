package tests

import (
	"testing"

	"loop.example/g00140/impl"
)

// TestCompactedHeapsHaveTheSameGraph holds drawn heaps against the model, and asks what is promised.
func TestCompactedHeapsHaveTheSameGraph(t *testing.T) {
	n := numbers(105)
	done, refused, garbage := 0, 0, 0
	for range 600 {
		h := drawnYoung(&n)
		want := modelCompact(h)
		wantCompact(t, "drawn", h, want)
		if !want.is {
			refused++
			continue
		}
		done++
		if want.garbage > 0 {
			garbage++
		}
		then, _ := impl.Compact(h)
		wantPromised(t, "drawn", h, then)
		staysTheSame(t, h, then)
	}
	if done < 200 || refused < 15 || garbage < 150 {
		t.Errorf("%d done, %d refused, %d with garbage: too few of a kind", done, refused, garbage)
	}
}

// staysTheSame holds each object that is left against what it was, by its hash, and its fields by those that they mean.
func staysTheSame(t *testing.T, h impl.Heap, then impl.Heap) {
	t.Helper()
	was := map[int64]int64{}
	for _, at := range impl.Objects(h) {
		was[h.Words[at+2]] = at
	}
	means := func(x impl.Heap, w int64) int64 {
		if w%2 == 0 {
			return w
		}
		return ref(x.Words[(w-1)/2+2])
	}
	for _, at := range impl.Objects(then) {
		from := was[then.Words[at+2]]
		for i := range 4 + then.Words[at] {
			a, b := h.Words[from+i], then.Words[at+i]
			if i < 4 && a != b || i >= 4 && means(h, a) != means(then, b) {
				t.Fatalf("word %d of the object at %d is %d, and was %d", i, at, b, a)
			}
		}
	}
	for i, w := range h.Roots {
		if means(h, w) != means(then, then.Roots[i]) {
			t.Fatalf("root %d is %d, and was %d", i, then.Roots[i], w)
		}
	}
}

// TestBuiltHeapsAreCompact has heaps of Build: all objects are reached, old, and lie from 0 on already.
func TestBuiltHeapsAreCompact(t *testing.T) {
	n := numbers(106)
	for range 150 {
		h, is := impl.Build(drawnGraph(&n))
		if !is {
			continue
		}
		wantPut(t, "built", h, cloneHeap(h), 0, impl.Objects(h)...)
	}
	for _, words := range []int64{20, 1999, 2000} {
		h, is := impl.Build(sizedGraph(words))
		if !is {
			t.Fatal("the test's own graph is not right")
		}
		wantPut(t, "built", h, cloneHeap(h), 0, impl.Objects(h)...)
	}
}

// TestRowsOfChangesAndCollections makes, sets, scavenges and compacts, step by step, from a new heap on.
func TestRowsOfChangesAndCollections(t *testing.T) {
	n := numbers(107)
	compacts, scavenges, full, garbage := 0, 0, 0, int64(0)
	for i := range 20 {
		h := impl.NewHeap()
		for range 8 {
			h, _ = impl.AddRoot(h, num(0))
		}
		for range 500 {
			next, is := drawnChange(&n, h)
			if i%2 == 1 && n.below(8) > 0 {
				next, is = drawnGrowth(&n, h)
			}
			if is {
				h = next
			}
			if is && n.below(30) > 0 {
				continue
			}
			if n.below(2) == 0 {
				if then, is := impl.Scavenge(h); is {
					scavenges++
					wantSameGraph(t, "a step", h, then)
					h = then
					continue
				}
			}
			want := modelCompact(h)
			wantCompact(t, "a step", h, want)
			if !want.is {
				full++
				break
			}
			compacts++
			garbage += want.garbage
			wantPromised(t, "a step", h, want.heap)
			h = want.heap
		}
	}
	if compacts < 80 || scavenges < 80 || full < 3 || garbage < 5000 {
		t.Errorf("%d compacts, %d scavenges, %d full heaps and %d words of garbage are too few of a kind", compacts, scavenges, full, garbage)
	}
}

// drawnGrowth makes an object that has what a root was, and puts it there: so nothing is lost. It says false where eden has no room.
func drawnGrowth(n *numbers, h impl.Heap) (impl.Heap, bool) {
	root := int64(n.below(len(h.Roots)))
	next, w, is := impl.New(h, 9, int64(1+n.below(60)))
	if !is {
		return h, false
	}
	next, _ = impl.Set(next, w, 0, h.Roots[root])
	return impl.SetRoot(next, root, w)
}

// TestCompactedAndScavengedInTurns collects drawn heaps in both ways, in either order: the graph stays what it was.
func TestCompactedAndScavengedInTurns(t *testing.T) {
	n := numbers(108)
	done := 0
	for range 200 {
		h := drawnYoung(&n)
		graph := impl.Shape(h)
		for range 6 {
			then, is := impl.Compact(h)
			if n.below(2) == 0 {
				then, is = impl.Scavenge(h)
			}
			if !is {
				break
			}
			done++
			wantSameGraph(t, "in turns", h, then)
			h = then
		}
		if !alike(impl.Shape(h), graph) {
			t.Fatalf("the graph is %v, and was %v", impl.Shape(h), graph)
		}
	}
	if done < 400 {
		t.Errorf("%d collections are few", done)
	}
}

// TestScavengedFirstItIsCompactedAlike has what is reached alone in common: as many words, and the same graph.
func TestScavengedFirstItIsCompactedAlike(t *testing.T) {
	n := numbers(109)
	done := 0
	for range 200 {
		h := drawnYoung(&n)
		young, is := impl.Scavenge(h)
		first, fits := impl.Compact(h)
		if !is || !fits {
			continue
		}
		done++
		second, fits := impl.Compact(young)
		if !fits || second.Old != first.Old || !alike(impl.Shape(first), impl.Shape(second)) {
			t.Fatalf("%v: %s, not %s", fits, heapText(second), heapText(first))
		}
	}
	if done < 80 {
		t.Errorf("%d heaps are few", done)
	}
}

// TestWhenItIsCompactedDoesNotShow does the same to two heaps, of which one alone is compacted at drawn moments.
func TestWhenItIsCompactedDoesNotShow(t *testing.T) {
	n := numbers(110)
	compacts, steps := 0, 0
	for range 15 {
		pair := [2]impl.Heap{impl.NewHeap(), impl.NewHeap()}
		for i := range pair {
			for range 6 {
				pair[i], _ = impl.AddRoot(pair[i], num(0))
			}
		}
		for range 150 {
			step := [5]int64{int64(n.below(5)), int64(n.below(6)), int64(n.below(6)), int64(n.below(4)), int64(n.below(20))}
			if n.below(6) == 0 {
				if then, is := impl.Compact(pair[1]); is {
					compacts++
					pair[1] = then
				}
			}
			first, is := pairStep(pair[0], step)
			second, too := pairStep(pair[1], step)
			if !is || !too {
				break
			}
			steps++
			pair = [2]impl.Heap{first, second}
			if a, b := impl.Shape(first), impl.Shape(second); !alike(a, b) {
				t.Fatalf("the graphs are %v and %v", a, b)
			}
		}
	}
	if compacts < 100 || steps < 1000 {
		t.Errorf("%d compacts and %d steps are few", compacts, steps)
	}
}

// pairStep tells objects by roots alone, so that it means the same in two heaps of one graph; it scavenges, and else compacts, where eden has no room, and says false where that does not help.
func pairStep(h impl.Heap, step [5]int64) (impl.Heap, bool) {
	i, k, field, size := step[1], step[2], step[3], step[4]
	switch step[0] {
	case 0:
		if impl.Room(h) < 4+size {
			then, is := impl.Scavenge(h)
			if !is {
				then, is = impl.Compact(h)
			}
			if !is {
				return h, false
			}
			h = then
		}
		next, w, is := impl.New(h, i, size)
		if !is {
			return h, false
		}
		return impl.SetRoot(next, k, w)
	case 1:
		return impl.SetRoot(h, i, num(size))
	case 2:
		w, is := impl.Get(h, h.Roots[i], field)
		if !is {
			return h, true
		}
		return impl.SetRoot(h, k, w)
	default:
		next, is := impl.Set(h, h.Roots[i], field, h.Roots[k])
		if !is {
			return h, true
		}
		return next, true
	}
}

// TestAllIsFreeThen makes objects where others lay: nothing of those is left.
func TestAllIsFreeThen(t *testing.T) {
	n := numbers(111)
	for range 60 {
		h, is := impl.Compact(drawnYoung(&n))
		if !is {
			continue
		}
		wantRoom(t, "eden is free", h, 600)
		for _, size := range []int64{60, 60, 0, 7} {
			h = wantMade(t, "eden is free", h, 3, size)
		}
	}
}

// TestCompactsOfHurtHeaps asks of heaps of which one number is another.
func TestCompactsOfHurtHeaps(t *testing.T) {
	n := numbers(112)
	right, wrong := 0, 0
	for range 1500 {
		h := drawnYoung(&n)
		hurt(&n, &h)
		want := modelCompact(h)
		wantCompact(t, "hurt", h, want)
		if want.garbage < 0 {
			wrong++
		} else {
			right++
		}
	}
	if right < 100 || wrong < 100 {
		t.Errorf("%d right and %d wrong heaps are too few of a kind", right, wrong)
	}
}
