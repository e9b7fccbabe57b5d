package tests

import (
	"slices"
	"testing"

	"loop.example/g00140/impl"
)

// modelSave says the chapter again: all writes of the commit of the machine's pages are done.
func modelSave(d impl.Disk, v impl.Vm) (impl.Disk, bool) {
	bodies, is := modelFreeze(v)
	if !is || len(d.Sectors) != 64 {
		return impl.Disk{}, false
	}
	script := modelScript(d, bodies)
	if len(script) == 0 {
		return impl.Disk{}, false
	}
	return modelCrash(impl.Disk{Sectors: d.Sectors, Late: script}, allTrue(len(script)), -1), true
}

func modelSaveCut(d impl.Disk, v impl.Vm, done int64, lands []bool, torn int64) impl.Disk {
	bodies, is := modelFreeze(v)
	if !is {
		return impl.Disk{}
	}
	return modelCut(d, bodies, done, lands, torn)
}

// wantSaved fails unless the disk with the machine saved is this one, and restarts as the machine.
func wantSaved(t *testing.T, name string, d impl.Disk, v impl.Vm, want impl.Disk) impl.Disk {
	t.Helper()
	defer noPanic(t, name)
	got, is := impl.Save(d, v)
	if !is || !sameDisk(got, want) || !impl.DiskOk(got) {
		t.Fatalf("%s: Save says %v: %q, not %q", name, is, got.Sectors, want.Sectors)
	}
	wantRestarted(t, name, got, v.Program, frozen(v))
	return got
}

func wantNotSaved(t *testing.T, name string, d impl.Disk, v impl.Vm) {
	t.Helper()
	defer noPanic(t, name)
	if got, is := impl.Save(d, v); is || !isZeroDisk(got) {
		t.Errorf("%s: Save says %v", name, is)
	}
	for _, done := range []int64{0, 1, 3, 40} {
		if !isZeroDisk(impl.SaveCut(d, v, done, allTrue(3), -1)) {
			t.Errorf("%s: SaveCut with done %d is not the zero Disk", name, done)
		}
	}
}

// TestSavesWritten has the sectors of two saves written out.
func TestSavesWritten(t *testing.T) {
	v := mustNewVm(t, program("push 4", "print"))
	rest := "1 1" + noughts(40) + "\n2 2" + noughts(10) + "\n"
	first := diskWith(map[int64]string{1: superOf(1, 2), 2: pageOf(0, 1, newText+rest)})
	d := wantSaved(t, "a new disk", impl.NewDisk(), v, first)
	then := impl.RunVm(v, 3)
	second := diskWith(map[int64]string{0: superOf(2, 3), 1: superOf(1, 2), 2: pageOf(0, 1, newText+rest), 3: pageOf(0, 2, "2 1 3\n1 4\n"+rest)})
	d = wantSaved(t, "a second save", d, then, second)
	second.Sectors[1] = superOf(3, 3)
	wantSaved(t, "the same again", d, then, second)
}

// TestSavesKeepWhatIsThere puts those pages alone that are others.
func TestSavesKeepWhatIsThere(t *testing.T) {
	v := pagedVm()
	bodies := mustFreeze(t, v)
	d := mustSave(t, impl.NewDisk(), v)
	want := diskWith(map[int64]string{1: superOf(1, 2, 3, 4), 2: pageOf(0, 1, bodies[0]), 3: pageOf(1, 1, bodies[1]), 4: pageOf(2, 1, bodies[2])})
	if !sameDisk(d, want) {
		t.Fatalf("%q", d.Sectors[:6])
	}
	then := withPc(v, 2) // one byte of the first page
	other := mustFreeze(t, then)
	want.Sectors[0], want.Sectors[5] = superOf(2, 5, 3, 4), pageOf(0, 2, other[0])
	wantSaved(t, "the first page is another one", d, then, want)
}

// savedDisks are disks of all kinds to save on: new ones, with commits that are machines and that are none, with late writes, with damage.
func savedDisks(t *testing.T) []namedDisk {
	n := numbers(175)
	d := mustSave(t, impl.NewDisk(), pagedVm())
	two := mustSave(t, d, mustNewVm(t, nil))
	torn := impl.Disk{Sectors: slices.Clone(two.Sectors)}
	torn.Sectors[0] = torn.Sectors[0][:3]
	out := []namedDisk{
		{"new", impl.NewDisk()}, {"one save", d}, {"two saves", two}, {"a torn superblock", torn}, {"full of other texts", fullDisk()},
		{"a commit of none", mustCommit(t, impl.NewDisk())}, {"a commit of others", mustCommit(t, impl.NewDisk(), "one", "two")}, {"30 pages", mustSave(t, impl.NewDisk(), sizedVm(t, 10, 6000))},
		{"30 pages, and 30 others", mustSave(t, mustSave(t, impl.NewDisk(), sizedVm(t, 10, 6000)), sizedVm(t, 9, 6000))},
		{"late writes", lateDisk(t, two, impl.Write{Sector: 0, Text: ""}, impl.Write{Sector: 1, Text: "late"}, impl.Write{Sector: 2, Text: aText('l', 256)})},
		{"late superblocks", lateDisk(t, d, block(9, 2, 3, 4), impl.Write{Sector: 0, Text: superOf(8)})},
		{"a superblock alone", diskWith(map[int64]string{0: superOf(999999997, 2)})},
		{"one epoch left", diskWith(map[int64]string{0: superOf(999999998)})},
	}
	for range 40 {
		out = append(out, namedDisk{"drawn", drawnShadow(&n)})
	}
	full := drawnShadow(&n)
	full.Late = slices.Repeat([]impl.Write{{Sector: 5, Text: "late"}}, 200)
	return append(out, namedDisk{"200 late writes", full})
}

// savedVms are machines of all sizes to be saved.
func savedVms(t *testing.T) []namedVm {
	stuck := impl.RunVm(mustNewVm(t, program("add")), 5)
	out := []namedVm{{"new", mustNewVm(t, nil)}, {"stuck", stuck}, {"three pages", pagedVm()}, {"30 pages", sizedVm(t, 10, 6000)}, {"just a page", sizedVm(t, 1, 200)}, {"a page and a byte", sizedVm(t, 1, 201)}}
	for _, p := range longPrograms() {
		out = append(out, namedVm{p.name, impl.RunVm(mustNewVm(t, p.codes), 400)})
	}
	return out
}

// TestSaves has each machine on each disk.
func TestSaves(t *testing.T) {
	refused := 0
	for _, c := range savedDisks(t) {
		for _, v := range savedVms(t) {
			want, is := modelSave(c.disk, v.vm)
			if !is {
				refused++
				wantNotSaved(t, v.name+" on "+c.name, c.disk, v.vm)
				continue
			}
			got := wantSaved(t, v.name+" on "+c.name, c.disk, v.vm, want)
			if commit, is := impl.Commit(c.disk, mustFreeze(t, v.vm)); !is || !sameDisk(commit, got) {
				t.Errorf("%s on %s: Commit says %v, and another one", v.name, c.name, is)
			}
		}
	}
	if refused == 0 || refused > 300 {
		t.Errorf("%d are refused", refused)
	}
}

// TestSavesOnWrongDisks has disks that are not right, or have no epoch left.
func TestSavesOnWrongDisks(t *testing.T) {
	wrong := wrongDisks()
	for at := range int64(2) {
		wrong = append(wrong, namedDisk{"no epoch left", diskWith(map[int64]string{at: superOf(999999999)})})
		wrong = append(wrong, namedDisk{"no epoch left, not sound", diskWith(map[int64]string{at: superOf(999999999, 2, 3)})})
	}
	for _, c := range wrong {
		for _, v := range savedVms(t) {
			wantNotSaved(t, v.name+" on "+c.name, c.disk, v.vm)
		}
	}
}

// TestSavesOnAndOn goes on to save what runs, and restarts it each time.
func TestSavesOnAndOn(t *testing.T) {
	n := numbers(176)
	for _, codes := range [][]impl.Code{longPrograms()[0].codes, longPrograms()[1].codes, longPrograms()[3].codes, drawnLoopOf(&n), drawnLoopOf(&n)} {
		v, d := mustNewVm(t, codes), impl.NewDisk()
		for epoch := int64(1); epoch <= 60; epoch++ {
			v = impl.RunVm(v, int64(n.below(60)))
			want, _ := modelSave(d, v)
			d = wantSaved(t, "epoch "+digits(epoch), d, v, want)
			if newest, _ := impl.Newest(d); newest != epoch {
				t.Fatalf("the epoch is %d, not %d", newest, epoch)
			}
			if n.below(3) == 0 {
				v, _ = impl.Restart(d, codes)
			}
		}
	}
}
