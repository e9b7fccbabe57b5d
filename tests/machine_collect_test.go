package tests

import (
	"testing"

	"loop.example/g00140/impl"
)

// wantCollected fails unless Collect answers the machine with this heap, right, with the graph that it had.
func wantCollected(t *testing.T, name string, v impl.Vm, full bool, h impl.Heap) impl.Vm {
	t.Helper()
	defer noPanic(t, name)
	want := cloneVm(v)
	want.Heap = h
	got, is := impl.Collect(v, full)
	if !is || !sameVm(got, want) || !impl.VmOk(got) {
		t.Fatalf("%s: collected, full %v, it says %v: %s, not %s", name, full, is, vmText(got), vmText(want))
	}
	wantSameGraph(t, name, v.Heap, got.Heap)
	return got
}

// holdsToCollectModel collects both ways, as the models of the collectors tell.
func holdsToCollectModel(t *testing.T, name string, v impl.Vm) (bool, bool) {
	t.Helper()
	scavenged, compacted := modelScavenge(v.Heap), modelCompact(v.Heap)
	if scavenged.is {
		wantCollected(t, name, v, false, scavenged.heap)
	} else {
		wantNotCollected(t, name, v, false)
	}
	if compacted.is {
		wantCollected(t, name, v, true, compacted.heap)
	} else {
		wantNotCollected(t, name, v, true)
	}
	return scavenged.is, compacted.is
}

// TestCollectsWritten has a new machine: the two are moved to the other survivors, or to the old space, and nothing else is another one.
func TestCollectsWritten(t *testing.T) {
	v := impl.RunVm(mustNewVm(t, program("new 2", "push 5", "print", "new 9", "drop", "dup", "print")), 20)
	wantResult(t, "the machine", v, []int64{5}, 2)
	h := impl.Heap{Words: make([]int64, 3200), Roots: []int64{5801, 5889}, Eden: 2000, Surv: 2964, Flip: true, Hash: 5}
	copy(h.Words[2900:], []int64{40, 1, 1, 1, 4, 5917, 5917})
	copy(h.Words[2944:], []int64{10, 2, 2, 1})
	copy(h.Words[2958:], []int64{2, 3, 3, 1})
	wantCollected(t, "scavenged", v, false, h)
	h = impl.Heap{Words: make([]int64, 3200), Roots: []int64{1, 89}, Old: 64, Eden: 2000, Surv: 2600, Hash: 5}
	copy(h.Words, []int64{40, 1, 1, 0, 4, 117, 117})
	copy(h.Words[44:], []int64{10, 2, 2, 0})
	copy(h.Words[58:], []int64{2, 3, 3, 0})
	again := wantCollected(t, "compacted", v, true, h)
	wantCollected(t, "compacted twice", again, true, h)
}

// TestCollectsOfRightMachines has each site, depth, Pc, Out and State.
func TestCollectsOfRightMachines(t *testing.T) {
	for _, c := range rightVms() {
		holdsToCollectModel(t, c.name, c.vm)
	}
}

// TestCollectsWithoutRoom has no room in the old space for what is young, or for what is reached.
func TestCollectsWithoutRoom(t *testing.T) {
	bothWays(func(flip bool, used int64, spare int64) {
		for _, c := range []struct {
			chain              int64
			scavenges, compact bool
		}{{1342, false, true}, {1343, false, false}, {1942, false, false}, {400, false, true}} {
			for state := range int64(4) {
				v := withState(linkedVm(flip, c.chain, []int64{num(8)}, "new 0"), state)
				scavenges, compact := holdsToCollectModel(t, "a chain", v)
				if scavenges != c.scavenges || compact != c.compact {
					t.Errorf("a chain of %d: %v, %v", c.chain, scavenges, compact)
				}
			}
		}
		// What is young has room among the survivors, though what is reached is too much for the old space.
		old := linkedThings(filled(2000, 100), 0)
		v := vmOf(laidHeap(flip, old, ownThings(0, []int64{num(8)}, ref(0)), nil), 2000, 2044, program("halt")...)
		if scavenges, compact := holdsToCollectModel(t, "a full old space", v); !scavenges || compact {
			t.Errorf("a full old space: %v, %v", scavenges, compact)
		}
	})
}

// TestCollectsOnAndOn scavenges a machine three times, until it is old, and once more.
func TestCollectsOnAndOn(t *testing.T) {
	for _, s := range allSites() {
		v := s.world([]int64{ref(youngOf), num(3)}, program("halt")...)
		for range 4 {
			v = wantCollected(t, s.name(), v, false, modelScavenge(v.Heap).heap)
		}
		if impl.Young(v.Heap) != 0 || v.Pc != 0 || len(v.Out) != 2 {
			t.Errorf("%s: %s", s.name(), vmText(v))
		}
		v = wantCollected(t, s.name(), v, true, modelCompact(v.Heap).heap)
		wantResult(t, s.name(), impl.RunVm(v, 5), []int64{-4, 1000000000}, 1)
	}
}
