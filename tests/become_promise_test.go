package tests

import (
	"slices"
	"testing"

	"loop.example/g00140/impl"
)

// TestDrawnHeapsBecome holds drawn heaps against the model, and asks what is promised: Exchange of Exchange is the heap, and nothing refers to what was forwarded.
func TestDrawnHeapsBecome(t *testing.T) {
	n := numbers(122)
	done, refused, changes, itself := 0, 0, 0, 0
	for i := range 150 {
		h := drawnYoung(&n)
		if i%3 == 0 {
			h = drawnSmall(&n)
		}
		for range 6 {
			a, b := drawnPair(&n, h)
			want := holdsToBecomeModel(t, "drawn", h, a, b)
			if !want.is {
				refused++
				continue
			}
			done++
			if a == b {
				itself++
			}
			if !slices.Equal(want.forward.Kept, h.Kept) || !slices.Equal(want.exchange.Kept, h.Kept) {
				changes++
			}
		}
	}
	if done < 300 || refused < 50 || changes < 50 || itself < 20 {
		t.Errorf("%d done, %d refused, %d with another Kept, %d with itself: too few of a kind", done, refused, changes, itself)
	}
}

// TestRowsOfBecomes goes on from heap to heap, in drawn ones and in small ones, where the two are meant often.
func TestRowsOfBecomes(t *testing.T) {
	n := numbers(123)
	changes := 0
	for i := range 40 {
		h := drawnHeap(&n)
		if i%2 == 0 {
			h = drawnSmall(&n)
		}
		for range 30 {
			a, b := drawnPair(&n, h)
			want := holdsToBecomeModel(t, "a row", h, a, b)
			if !want.is {
				continue
			}
			next := want.exchange
			if n.below(8) == 0 {
				next = want.forward
			}
			if !slices.Equal(next.Kept, h.Kept) {
				changes++
			}
			h = next
		}
	}
	if changes < 60 {
		t.Errorf("Kept was another one %d times", changes)
	}
}

// drawnSmall is a heap of seven objects in all spaces, all of whose fields and roots are drawn among these.
func drawnSmall(n *numbers) impl.Heap {
	h := keptHeap(n.below(2) == 1)
	drawnWords(n, &h)
	return h
}

// TestExchangesUndone does a row of exchanges, and then the same ones from the last to the first.
func TestExchangesUndone(t *testing.T) {
	n := numbers(124)
	done := 0
	for range 60 {
		was := drawnHeap(&n)
		h := was
		var pairs [][2]int64
		for range 20 {
			a, b := drawnPair(&n, h)
			if next, is := impl.Exchange(h, a, b); is {
				h, pairs = next, append(pairs, [2]int64{a, b})
			}
		}
		for _, pair := range slices.Backward(pairs) {
			h, _ = impl.Exchange(h, pair[0], pair[1])
			done++
		}
		if !sameHeap(h, was) {
			t.Fatalf("undone, it is %s, and was %s", heapText(h), heapText(was))
		}
	}
	if done < 400 {
		t.Errorf("%d exchanges are few", done)
	}
}

// TestForwardAndExchangeAgree has what one tells of the other: forwarded after an exchange it is as if forwarded alone.
func TestForwardAndExchangeAgree(t *testing.T) {
	n := numbers(125)
	done := 0
	for range 200 {
		h := drawnSmall(&n)
		if n.below(3) == 0 {
			h = drawnHeap(&n)
		}
		a, b := drawnPair(&n, h)
		turned, is := impl.Exchange(h, a, b)
		if !is {
			continue
		}
		done++
		other, _ := impl.Exchange(h, b, a)
		first, _ := impl.Forward(h, a, b)
		second, _ := impl.Forward(turned, a, b)
		if !sameHeap(turned, other) || !sameHeap(first, second) {
			t.Fatalf("%d and %d: %s; %s", a, b, heapText(first), heapText(second))
		}
	}
	if done < 120 {
		t.Errorf("%d heaps are few", done)
	}
}

// TestThreeThatGoRound has three objects, each of which becomes the next one: after three rounds, and not sooner, all is as it was.
func TestThreeThatGoRound(t *testing.T) {
	n := numbers(131)
	done := 0
	for range 200 {
		h := drawnSmall(&n)
		objects := impl.Objects(h)
		i := n.below(len(objects) - 2)
		a, b, c := ref(objects[i]), ref(objects[i+1]), ref(objects[i+2])
		meant := slices.Concat(impl.Referrers(h, a), impl.Referrers(h, b), impl.Referrers(h, c))
		then := h
		for round := range 3 {
			then, _ = impl.Exchange(then, a, b)
			then, _ = impl.Exchange(then, b, c)
			if sameHeap(then, h) && round < 2 && len(meant) > 0 {
				t.Fatalf("after %d rounds it is as it was: %s", round+1, heapText(then))
			}
		}
		if !sameHeap(then, h) {
			t.Fatalf("after three rounds it is %s, and was %s", heapText(then), heapText(h))
		}
		if len(meant) > 0 {
			done++
		}
	}
	if done < 100 {
		t.Errorf("%d heaps are few", done)
	}
}

// TestRowsOfChangesBecomesAndCollections makes, sets, becomes, scavenges and compacts, step by step, from a new heap on.
func TestRowsOfChangesBecomesAndCollections(t *testing.T) {
	n := numbers(126)
	becomes, scavenges, compacts, kept := 0, 0, 0, 0
	for range 15 {
		h := impl.NewHeap()
		for range 8 {
			h, _ = impl.AddRoot(h, num(0))
		}
		for range 250 {
			next, is := drawnChange(&n, h)
			if is {
				h = next
			}
			if n.below(3) == 0 {
				a, b := drawnPair(&n, h)
				want := holdsToBecomeModel(t, "a step", h, a, b)
				if want.is {
					becomes++
					next := want.exchange
					if n.below(4) == 0 {
						next = want.forward
					}
					if !slices.Equal(next.Kept, h.Kept) {
						kept++
					}
					h = next
				}
			}
			if is && n.below(20) > 0 {
				continue
			}
			if want := modelScavenge(h); want.is && n.below(3) > 0 {
				scavenges++
				wantScavenge(t, "a step", h, want)
				wantSameGraph(t, "a step", h, want.heap)
				h = want.heap
				continue
			}
			want := modelCompact(h)
			wantCompact(t, "a step", h, want)
			if !want.is {
				break
			}
			compacts++
			wantPromised(t, "a step", h, want.heap)
			h = want.heap
		}
	}
	if becomes < 500 || scavenges < 60 || compacts < 30 || kept < 20 {
		t.Errorf("%d becomes, %d scavenges, %d compacts, %d with another Kept: too few of a kind", becomes, scavenges, compacts, kept)
	}
}

// reachedPair are the words of two objects that are reached, if there are any.
func reachedPair(n *numbers, h impl.Heap) (int64, int64, bool) {
	nodes := impl.Shape(h).Nodes
	if len(nodes) == 0 {
		return 0, 0, false
	}
	a, _ := wordOfHash(h, nodes[n.below(len(nodes))].Hash)
	b, _ := wordOfHash(h, nodes[n.below(len(nodes))].Hash)
	return a, b, true
}

// wordOfHash is the word of the object that has it.
func wordOfHash(h impl.Heap, hash int64) (int64, bool) {
	for _, at := range impl.Objects(h) {
		if h.Words[at+2] == hash {
			return ref(at), true
		}
	}
	return 0, false
}

// TestWhenItIsCollectedDoesNotShowInWhatBecomes collects ahead of it, or does not: the two are told by their hashes, and the graphs are alike then.
func TestWhenItIsCollectedDoesNotShowInWhatBecomes(t *testing.T) {
	n := numbers(127)
	done := 0
	for range 200 {
		h := drawnYoung(&n)
		a, b, some := reachedPair(&n, h)
		collected, is := impl.Scavenge(h)
		if n.below(2) == 0 {
			collected, is = impl.Compact(h)
		}
		if !some || !is {
			continue
		}
		x, _ := wordOfHash(collected, impl.HashOf(h, a))
		y, _ := wordOfHash(collected, impl.HashOf(h, b))
		done++
		first, _ := impl.Exchange(h, a, b)
		second, is := impl.Exchange(collected, x, y)
		if !is || !alike(impl.Shape(first), impl.Shape(second)) {
			t.Fatalf("%v: exchanged, the graphs are %v and %v", is, impl.Shape(first), impl.Shape(second))
		}
		first, _ = impl.Forward(h, a, b)
		second, is = impl.Forward(collected, x, y)
		if !is || !alike(impl.Shape(first), impl.Shape(second)) {
			t.Fatalf("%v: forwarded, the graphs are %v and %v", is, impl.Shape(first), impl.Shape(second))
		}
	}
	if done < 60 {
		t.Errorf("%d heaps are few", done)
	}
}

// TestWhatWasForwardedIsGarbage compacts then: the first one is gone, and what it alone had with it.
func TestWhatWasForwardedIsGarbage(t *testing.T) {
	n := numbers(128)
	done := 0
	for range 200 {
		h := drawnYoung(&n)
		a, b, some := reachedPair(&n, h)
		if !some || a == b {
			continue
		}
		then, _ := impl.Forward(h, a, b)
		left, is := impl.Compact(then)
		if !is {
			continue
		}
		done++
		if _, is := wordOfHash(left, impl.HashOf(h, a)); is {
			t.Fatalf("what was forwarded is there still: %s", heapText(left))
		}
		if impl.Garbage(then) < impl.Garbage(h)+4 {
			t.Fatalf("%d words are garbage, and %d were", impl.Garbage(then), impl.Garbage(h))
		}
	}
	if done < 60 {
		t.Errorf("%d heaps are few", done)
	}
}

// TestBecomesInHurtHeaps asks of heaps of which one number is another.
func TestBecomesInHurtHeaps(t *testing.T) {
	n := numbers(129)
	right, wrong := 0, 0
	for range 1200 {
		h := drawnHeap(&n)
		a, b := drawnPair(&n, h)
		hurt(&n, &h)
		wantBecome(t, "hurt", h, a, b, modelBecome(h, a, b))
		if modelRoom(h) < 0 {
			wrong++
		} else {
			right++
		}
	}
	if right < 80 || wrong < 80 {
		t.Errorf("%d right and %d wrong heaps are too few of a kind", right, wrong)
	}
}
