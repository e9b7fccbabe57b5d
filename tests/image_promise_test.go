package tests

import (
	"slices"
	"testing"

	"loop.example/g00140/impl"
)

// TestARestartedMachineGoesOn saves at drawn ticks, restarts, and comes to the same output, State and graph as without; the model of both has no heap at all.
func TestARestartedMachineGoesOn(t *testing.T) {
	n := numbers(182)
	done, none := 0, 0
	for _, v := range drawnVms(t, &n, 12, 30) {
		d := newDream(v.Program)
		disk := impl.NewDisk()
		for range 12 {
			ticks := n.below(120)
			v = impl.RunVm(v, int64(ticks))
			for range ticks {
				d.tick()
			}
			if v.State == 3 && len(v.Out) < 300 {
				break // the heap is full, which the one without a heap never is
			}
			isDream(t, "ahead of the save", v, d)
			bodies, is := impl.Freeze(v)
			if !is || impl.Reached(v.Heap) > 2000 {
				none++
				break
			}
			disk = mustSave(t, disk, v)
			then, is := impl.Restart(disk, v.Program)
			if _, epoch := impl.Pages(disk); !is || epoch == 0 || len(bodies) == 0 {
				t.Fatalf("it is not restarted: %s", vmText(v))
			}
			isDream(t, "restarted", then, d)
			wantSameEnd(t, "restarted", then, v)
			wantSameEnd(t, "ten ticks later", impl.RunVm(then, 10), impl.RunVm(v, 10))
			v = then
			done++
		}
	}
	if done < 300 || none > 10 {
		t.Errorf("%d restarts, %d without", done, none)
	}
}

// TestARestartedMachineComesToTheSameEnd saves at each tick in turn, and runs on to the end.
func TestARestartedMachineComesToTheSameEnd(t *testing.T) {
	n := numbers(183)
	for _, v := range drawnVms(t, &n, 2, 6) {
		total := int64(240)
		end := impl.RunVm(v, total)
		for ticks := int64(0); ticks <= total; ticks += 3 {
			at := impl.RunVm(v, ticks)
			then, is := impl.Restart(mustSave(t, impl.NewDisk(), at), v.Program)
			if !is {
				t.Fatalf("tick %d: it is not restarted: %s", ticks, vmText(at))
			}
			wantSameEnd(t, "tick "+digits(ticks), impl.RunVm(then, total-ticks), end)
		}
	}
}

// TestMachinesThatEndedStayEnded has each State: a machine that is restarted does not run where it did not.
func TestMachinesThatEndedStayEnded(t *testing.T) {
	for _, lines := range []string{"halt\ndup\n", "add\n", "push 6\ndup\nprint\njump 1\n", "push 1\nprint\n", ""} {
		codes, _ := modelProgram(lines)
		v := impl.RunVm(mustNewVm(t, codes), 2000)
		then, is := impl.Restart(mustSave(t, impl.NewDisk(), v), v.Program)
		if !is || then.State == 0 || then.State != v.State {
			t.Fatalf("%q: Restart says %v: %s", lines, is, vmText(then))
		}
		if got := impl.RunVm(then, 2000); !sameVm(got, then) {
			t.Errorf("%q: it goes on: %s", lines, vmText(got))
		}
	}
}

// TestMachinesThatLosePower run, are saved now and then, and lose power in a save now and then: each time they are those of before, or of the save.
func TestMachinesThatLosePower(t *testing.T) {
	n := numbers(184)
	lost, landed := 0, 0
	for _, codes := range [][]impl.Code{longPrograms()[0].codes, longPrograms()[1].codes, longPrograms()[2].codes, longPrograms()[4].codes, drawnLoopOf(&n), drawnLoopOf(&n), drawnLoopOf(&n)} {
		v := mustNewVm(t, codes)
		disk, saved := impl.NewDisk(), v
		for range 60 {
			v = impl.RunVm(v, int64(n.below(80)))
			if n.below(3) > 0 {
				disk, saved = mustSave(t, disk, v), v
				continue
			}
			script := len(impl.Script(disk, mustFreeze(t, v)))
			done, lands, torn := int64(n.below(script+2)), drawnLands(&n, script), int64(n.below(script+2)-1)
			cut := beforeOrAfter(t, "power lost", disk, v, done, lands, torn)
			then, _ := impl.Restart(cut, codes)
			if done >= int64(script) && len(lands) > 0 && lands[0] && torn != 0 {
				saved = v
				landed++
			} else {
				lost++
			}
			wantSameEnd(t, "power lost", then, saved)
			v = then
			if otherIsSoundOrEmpty(cut) {
				disk = cut
			} else {
				disk = mustSave(t, impl.NewDisk(), v)
			}
			saved = v
		}
	}
	if lost < 30 || landed < 10 {
		t.Errorf("%d lost, %d landed", lost, landed)
	}
}

// TestRestartedAndCollected changes nothing, in whatever order.
func TestRestartedAndCollected(t *testing.T) {
	for _, s := range allSites() {
		v := s.world([]int64{ref(youngOf), num(3), ref(oldTwo)}, slices.Repeat(program("new 30", "drop", "dup", "drop"), 25)...)
		v.Out = nil
		end := impl.RunVm(v, 200)
		for i := range 8 {
			one := v
			for k := range 3 {
				switch i >> k & 1 {
				case 0:
					one, _ = impl.Restart(mustSave(t, impl.NewDisk(), one), v.Program)
				default:
					one, _ = impl.Collect(one, i%3 == 0)
				}
			}
			wantSameEnd(t, s.name(), impl.RunVm(one, 200), end)
		}
	}
}
