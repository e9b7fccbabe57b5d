package tests

import (
	"slices"
	"testing"

	"loop.example/g00140/impl"
)

// wrongVms are machines that are not VmOk, each by one thing.
func wrongVms(s site) []namedVm {
	out := slices.Concat(wrongParted(s), wrongStacks(s), wrongRests(s))
	for _, c := range wrongHeaps() {
		out = append(out, namedVm{c.name, impl.Vm{Heap: c.heap, Program: program("dup")}})
	}
	return append(out, namedVm{"the zero Vm", impl.Vm{}}, namedVm{"a heap of no object", impl.Vm{Heap: impl.NewHeap()}})
}

// TestWrongMachinesAreNotFrozen has one thing wrong each, in each State.
func TestWrongMachinesAreNotFrozen(t *testing.T) {
	for i, s := range allSites() {
		for k, c := range wrongVms(s) {
			if i == 0 || k%18 == i {
				wantNotFrozen(t, s.name()+", "+c.name, c.vm)
			}
		}
		if t.Failed() {
			return
		}
	}
	for _, c := range wrongParted(site{}) {
		for state := range int64(4) {
			wantNotFrozen(t, c.name, withState(c.vm, state))
		}
	}
}

// TestHurtMachinesAreNotFrozen holds machines, of which one number is another, against the model.
func TestHurtMachinesAreNotFrozen(t *testing.T) {
	n := numbers(172)
	right, wrong := 0, 0
	for _, c := range rightVms() {
		for range 6 {
			v := cloneVm(c.vm)
			hurtVm(&n, &v)
			if modelVmOk(v) {
				right++
				holdsToFreeze(t, "hurt", v)
			} else {
				wrong++
				wantNotFrozen(t, "hurt", v)
			}
		}
	}
	if right < 300 || wrong < 300 {
		t.Errorf("%d right and %d wrong machines are too few of a kind", right, wrong)
	}
}

// TestWrongMachinesAreNotSaved leaves no disk, whatever disk there was.
func TestWrongMachinesAreNotSaved(t *testing.T) {
	one := mustSave(t, impl.NewDisk(), mustNewVm(t, program("dup")))
	late := lateDisk(t, one, impl.Write{Sector: 9, Text: "late"})
	for _, c := range append(wrongVms(site{true, 1, 2}), namedVm{"too large", sizedVm(t, 10, 6001)}) {
		for _, d := range []impl.Disk{one, late, fullDisk(), {}} {
			if got, is := impl.Save(d, c.vm); is || !isZeroDisk(got) {
				t.Errorf("%s: Save says %v", c.name, is)
			}
			for _, done := range []int64{0, 1, 2} {
				if !isZeroDisk(impl.SaveCut(d, c.vm, done, allTrue(2), 0)) {
					t.Errorf("%s: SaveCut with done %d is not the zero Disk", c.name, done)
				}
			}
		}
	}
}
