package tests

import (
	"slices"
	"strings"
	"testing"

	"loop.example/g00140/impl"
)

// TestRestartOfNewDisks is NewVm of the program, and of none that is no program.
func TestRestartOfNewDisks(t *testing.T) {
	n := numbers(179)
	empty := []namedDisk{
		{"new", impl.NewDisk()}, {"full of other texts", fullDisk()}, {"late writes", drawnDisk(&n, 200)},
		{"a late superblock", lateDisk(t, impl.NewDisk(), block(1))}, {"a superblock that is not sound", diskWith(map[int64]string{1: superOf(1, 2)})},
		{"a late save", lateSave(t)}, {"pages alone", diskWith(map[int64]string{2: pageOf(0, 1, newText)})},
	}
	for _, c := range append(empty, wrongDisks()...) {
		for _, count := range []int{0, 1, 2, 50, 99, 100} {
			codes := drawnProgram(&n, count)
			wantRestarted(t, c.name, c.disk, codes, mustNewVm(t, codes))
		}
		for _, count := range []int{101, 102, 1000} {
			wantNotRestarted(t, c.name+", no program", c.disk, drawnProgram(&n, count))
		}
		for _, code := range []impl.Code{{}, {Op: 21}, {Op: 12, N: 1}, {Op: 2, N: 10}} {
			wantNotRestarted(t, c.name+", no program", c.disk, []impl.Code{{Op: 12}, code})
		}
	}
}

// lateSave is a disk to which all of a save was put, and nothing is held.
func lateSave(t *testing.T) impl.Disk {
	t.Helper()
	return lateDisk(t, impl.NewDisk(), impl.Script(impl.NewDisk(), mustFreeze(t, pagedVm()))...)
}

// TestRestartOfLateSaves sees the machine when it is held, not ahead.
func TestRestartOfLateSaves(t *testing.T) {
	v := pagedVm()
	wantRestarted(t, "late", lateSave(t), v.Program, mustNewVm(t, v.Program))
	wantRestarted(t, "held", impl.Hold(lateSave(t)), v.Program, frozen(v))
	wantRestarted(t, "all lands", impl.Crash(lateSave(t), allTrue(4), -1), v.Program, frozen(v))
	d := lateDisk(t, mustSave(t, impl.NewDisk(), v), impl.Write{Sector: 1}, impl.Write{Sector: 2}, block(2))
	wantRestarted(t, "late writes over it", d, v.Program, frozen(v))
	wantNotRestarted(t, "these held", impl.Hold(d), v.Program)
}

// TestRestartOfCommitsThatAreNoMachine answers none, not a new one.
func TestRestartOfCommitsThatAreNoMachine(t *testing.T) {
	v := pagedVm()
	bodies := mustFreeze(t, v)
	for name, other := range map[string][]string{
		"no page": nil, "an empty page": {""}, "other texts": {"one", "two"}, "the first page alone": bodies[:1], "the last ones alone": bodies[1:],
		"turned round": {bodies[1], bodies[0], bodies[2]}, "one more": append(slices.Clone(bodies), ""), "30 pages": make([]string, 30),
		"a head alone": {newText}, "all in pieces of 100": cutBy(strings.Join(bodies, ""), 100),
	} {
		for _, d := range []impl.Disk{impl.NewDisk(), mustSave(t, impl.NewDisk(), v), mustSave(t, impl.NewDisk(), mustNewVm(t, nil))} {
			d = mustCommit(t, d, other...)
			wantNotRestarted(t, name, d, v.Program)
			wantNotRestarted(t, name+", no program", d, nil)
			wantRestarted(t, name+", and a save behind", mustSave(t, d, v), v.Program, frozen(v))
		}
	}
}

// TestRestartOfDamagedPages has each page of the newest save damaged: it is that of before where this has pages of its own, and a new one where none is sound.
func TestRestartOfDamagedPages(t *testing.T) {
	v, old := pagedVm(), withPc(pagedVm(), 2)
	one := mustSave(t, impl.NewDisk(), old)
	d := mustSave(t, one, v)
	_, sectors := impl.Newest(d)
	_, had := impl.Newest(one)
	for number, sector := range sectors {
		text := d.Sectors[sector]
		for _, damaged := range []string{"", "P", text[:len(text)-1], text + "x", text[:9] + "x" + text[10:], pageOf(int64(number)+1, 1, "x"), pageOf(int64(number), 3, mustFreeze(t, v)[number])} {
			hurt := impl.Disk{Sectors: slices.Clone(d.Sectors)}
			hurt.Sectors[sector] = damaged
			if had[number] == sector {
				wantRestarted(t, "a page that both have", hurt, v.Program, mustNewVm(t, v.Program))
			} else {
				wantRestarted(t, "a page of the newest one", hurt, v.Program, frozen(old))
			}
		}
		hurt := impl.Disk{Sectors: slices.Clone(one.Sectors)}
		hurt.Sectors[had[number]] = hurt.Sectors[had[number]] + " "
		wantRestarted(t, "the only save", hurt, v.Program, mustNewVm(t, v.Program))
	}
	for at, want := range []impl.Vm{frozen(old), frozen(v)} {
		hurt := impl.Disk{Sectors: slices.Clone(d.Sectors)}
		hurt.Sectors[at] = hurt.Sectors[at][1:]
		wantRestarted(t, "a superblock", hurt, v.Program, want)
	}
	// A page that is sound, of another body, is no damage: it is another machine, or none.
	other := impl.Disk{Sectors: slices.Clone(d.Sectors)}
	other.Sectors[sectors[2]] = pageOf(2, 2, mustFreeze(t, v)[2]+"\n")
	wantNotRestarted(t, "another body", other, v.Program)
}

// TestRestartTakesOtherPrograms has those with which there is a machine, and those with which there is none.
func TestRestartTakesOtherPrograms(t *testing.T) {
	n := numbers(180)
	v := withPc(pagedVm(), 7)
	d := mustSave(t, impl.NewDisk(), v)
	for count := range 104 {
		codes := drawnProgram(&n, count)
		if !between(7, int64(count), 100) {
			wantNotRestarted(t, digits(int64(count))+" Codes", d, codes)
			continue
		}
		want := frozen(v)
		want.Program = codes
		wantRestarted(t, digits(int64(count))+" Codes", d, codes, want)
		codes = slices.Clone(codes)
		codes[n.below(count)] = impl.Code{Op: 21}
		wantNotRestarted(t, "a Code that is none", d, codes)
	}
}

// TestRestartHoldsToTheModel has disks of all kinds.
func TestRestartHoldsToTheModel(t *testing.T) {
	codes := slices.Repeat(program("dup"), 100)
	for _, c := range savedDisks(t) {
		best, bodies := modelPages(c.disk)
		want, is := modelThaw(bodies, codes)
		if best.epoch == 0 {
			want, is = mustNewVm(t, codes), true
		}
		if is {
			wantRestarted(t, c.name, c.disk, codes, want)
		} else {
			wantNotRestarted(t, c.name, c.disk, codes)
		}
		if want, is := modelSave(c.disk, pagedVm()); is {
			wantRestarted(t, c.name+", saved", want, codes, frozen(shifted(pagedVm(), func(v *impl.Vm) { v.Program = codes })))
		}
	}
}
