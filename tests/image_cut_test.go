package tests

import (
	"math"
	"slices"
	"testing"

	"loop.example/g00140/impl"
)

// wantSaveCut fails unless the disk is the model's.
func wantSaveCut(t *testing.T, name string, d impl.Disk, v impl.Vm, done int64, lands []bool, torn int64) impl.Disk {
	t.Helper()
	got, want := impl.SaveCut(d, v, done, lands, torn), modelSaveCut(d, v, done, lands, torn)
	if !sameDisk(got, want) {
		t.Fatalf("%s, done %d, lands %v, torn %d: %q, not %q", name, done, lands, torn, got.Sectors, want.Sectors)
	}
	return got
}

// TestSaveCutsWritten has a save of one page that fails at each write.
func TestSaveCutsWritten(t *testing.T) {
	v := mustNewVm(t, program("push 4", "print"))
	rest := "1 1" + noughts(40) + "\n2 2" + noughts(10) + "\n"
	d := mustSave(t, impl.NewDisk(), v)
	then := impl.RunVm(v, 3)
	page, block := pageOf(0, 2, "2 1 3\n1 4\n"+rest), superOf(2, 3)
	for _, c := range []struct {
		done  int64
		lands []bool
		torn  int64
		third string
		zero  string
	}{
		{0, allTrue(5), 0, "", ""}, {1, nil, -1, "", ""}, {1, []bool{true}, -1, page, ""}, {1, []bool{false, true}, -1, "", ""},
		{1, nil, 0, page[:len(page)/2], ""}, {1, []bool{true}, 0, page[:len(page)/2], ""}, {1, []bool{true}, 1, page, ""},
		{2, nil, -1, page, ""}, {2, []bool{true}, -1, page, block}, {2, []bool{false, true}, -1, page, ""}, {2, nil, 0, page, block[:len(block)/2]},
		{2, []bool{true}, 1, page, block}, {3, []bool{true}, -1, page, block}, {math.MaxInt64, []bool{true}, -1, page, block}, {math.MaxInt64, nil, math.MaxInt64, page, ""},
	} {
		want := impl.Disk{Sectors: slices.Clone(d.Sectors)}
		want.Sectors[3], want.Sectors[0] = c.third, c.zero
		got := wantSaveCut(t, "one page", d, then, c.done, c.lands, c.torn)
		if !sameDisk(got, want) {
			t.Errorf("done %d, lands %v, torn %d: %q, not %q", c.done, c.lands, c.torn, got.Sectors[:5], want.Sectors[:5])
		}
		if c.zero == block {
			wantRestarted(t, "all landed", got, v.Program, frozen(then))
		} else {
			wantRestarted(t, "not all landed", got, v.Program, frozen(v))
		}
	}
}

// beforeOrAfter fails unless the disk after the cut restarts as the machine that was saved, where its superblock landed whole, and else as that of before.
func beforeOrAfter(t *testing.T, name string, d impl.Disk, v impl.Vm, done int64, lands []bool, torn int64) impl.Disk {
	t.Helper()
	cut := wantSaveCut(t, name, d, v, done, lands, torn)
	put := done >= int64(len(impl.Script(d, mustFreeze(t, v))))
	before, had := impl.Restart(d, v.Program)
	want := frozen(v)
	if !put || torn == 0 || len(lands) == 0 || !lands[0] {
		want = before
	}
	got, is := impl.Restart(cut, v.Program)
	if !had || !is || !sameVm(got, want) {
		t.Fatalf("%s, done %d, lands %v, torn %d: Restart says %v: %s, not %s", name, done, lands, torn, is, vmText(got), vmText(want))
	}
	return cut
}

// TestWhateverTheCut goes through every cut of each save in a row of them: at every number of writes, with every choice of the late ones that land, torn or not.
func TestWhateverTheCut(t *testing.T) {
	v := pagedVm()
	row := []impl.Vm{
		v, withPc(v, 3), withStack(v, ref(oldTwo)), mustNewVm(t, v.Program), withState(v, 1), v, v,
		impl.RunVm(mustNewVm(t, v.Program), 1), sizedVm(t, 3, 700), sizedVm(t, 3, 800),
	}
	d := impl.NewDisk()
	for i, one := range row {
		one.Program = v.Program
		script := len(impl.Script(d, mustFreeze(t, one)))
		for done := range int64(script + 2) {
			for bits := range 1 << script {
				for torn := int64(-1); torn <= int64(script); torn++ {
					beforeOrAfter(t, "save "+digits(int64(i)), d, one, done, bitsOf(bits, script), torn)
				}
			}
		}
		d = mustSave(t, d, one)
	}
}

// TestSaveCutsOnEachDisk has each machine on each disk, cut at drawn writes.
func TestSaveCutsOnEachDisk(t *testing.T) {
	n := numbers(177)
	for _, c := range savedDisks(t) {
		for _, v := range savedVms(t) {
			for range 4 {
				done, torn := int64(n.below(36)-1), int64(n.below(10)-1)
				wantSaveCut(t, v.name+" on "+c.name, c.disk, v.vm, done, drawnLands(&n, 31), torn)
			}
		}
	}
}

// TestSaveCutsOfManyPages has a save of 30 pages: it fails at each write, and restarts as the machine of before.
func TestSaveCutsOfManyPages(t *testing.T) {
	n := numbers(178)
	v := sizedVm(t, 10, 6000)
	first := mustSave(t, impl.NewDisk(), v)
	then := sizedVm(t, 9, 5990)
	for done := range int64(33) {
		for _, lands := range [][]bool{nil, allTrue(31), drawnLands(&n, 31), drawnLands(&n, 31)} {
			for _, torn := range []int64{-1, 0, 1, done - 1, 29, 30} {
				beforeOrAfter(t, "30 pages", first, then, done, lands, torn)
			}
		}
	}
}

// TestSaveCutsBelowNone have no disk.
func TestSaveCutsBelowNone(t *testing.T) {
	for _, c := range savedDisks(t) {
		for _, done := range farNumbers {
			if done >= 0 {
				continue
			}
			for _, torn := range []int64{-1, 0} {
				if !isZeroDisk(impl.SaveCut(c.disk, pagedVm(), done, allTrue(3), torn)) {
					t.Errorf("%s, done %d: not the zero Disk", c.name, done)
				}
			}
		}
	}
	d := mustSave(t, impl.NewDisk(), mustNewVm(t, nil))
	for _, far := range farNumbers {
		wantSaveCut(t, "far", d, pagedVm(), 2, []bool{true}, far)
		wantSaveCut(t, "far", d, pagedVm(), max(far, 0), []bool{true}, -1)
	}
}

// TestSaveCutsGiveUpLateWrites: what was late ahead of a save is not to be seen behind it.
func TestSaveCutsGiveUpLateWrites(t *testing.T) {
	held := mustSave(t, impl.NewDisk(), mustNewVm(t, nil))
	d := lateDisk(t, held, block(8, 2), impl.Write{Sector: 1}, impl.Write{Sector: 2, Text: "late"}, impl.Write{Sector: 40, Text: "late"})
	for done := range int64(6) {
		for bits := range 16 {
			for torn := int64(-1); torn < 4; torn++ {
				if !sameDisk(impl.SaveCut(d, pagedVm(), done, bitsOf(bits, 4), torn), impl.SaveCut(held, pagedVm(), done, bitsOf(bits, 4), torn)) {
					t.Fatalf("a late write shows: done %d, lands %v, torn %d", done, bitsOf(bits, 4), torn)
				}
			}
		}
	}
	saved, _ := impl.Save(d, pagedVm())
	if want, _ := impl.Save(held, pagedVm()); !sameDisk(saved, want) {
		t.Error("a late write shows behind a save")
	}
}
