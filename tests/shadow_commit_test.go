package tests

import (
	"slices"
	"testing"

	"loop.example/g00140/impl"
)

// wantScript fails unless Script tells these writes, and Commit is what they make of the sectors.
func wantScript(t *testing.T, name string, d impl.Disk, bodies []string, want ...impl.Write) {
	t.Helper()
	if got := impl.Script(d, bodies); !slices.Equal(got, want) {
		t.Errorf("%s: the script is %v, not %v", name, got, want)
	}
	got, is := impl.Commit(d, bodies)
	if len(want) == 0 {
		if is || !isZeroDisk(got) {
			t.Errorf("%s: the commit is not refused", name)
		}
		return
	}
	all := modelCrash(impl.Disk{Sectors: d.Sectors, Late: want}, allTrue(len(want)), -1)
	if !is || !sameDisk(got, all) {
		t.Errorf("%s: the commit is not what its script writes", name)
	}
}

func page(at int64, number int64, epoch int64, body string) impl.Write {
	return impl.Write{Sector: at, Text: pageOf(number, epoch, body)}
}

func block(epoch int64, sectors ...int64) impl.Write {
	return impl.Write{Sector: epoch % 2, Text: superOf(epoch, sectors...)}
}

func TestTheFirstCommit(t *testing.T) {
	wantScript(t, "two", impl.NewDisk(), []string{"one", "two"}, page(2, 0, 1, "one"), page(3, 1, 1, "two"), block(1, 2, 3))
	wantScript(t, "an empty body", impl.NewDisk(), []string{""}, page(2, 0, 1, ""), block(1, 2))
	wantScript(t, "none", impl.NewDisk(), nil, block(1))
	wantScript(t, "an empty list", impl.NewDisk(), []string{}, block(1))
	wantScript(t, "over other texts", fullDisk(), []string{"one"}, page(2, 0, 1, "one"), block(1, 2))
}

func TestBodiesThatAreAlikeKeepTheirSectors(t *testing.T) {
	d := mustCommit(t, impl.NewDisk(), "one", "two", "three")
	wantScript(t, "all alike", d, []string{"one", "two", "three"}, block(2, 2, 3, 4))
	wantScript(t, "fewer", d, []string{"one", "two"}, block(2, 2, 3))
	wantScript(t, "none", d, nil, block(2))
	wantScript(t, "one more", d, []string{"one", "two", "three", "four"}, page(5, 3, 2, "four"), block(2, 2, 3, 4, 5))
	wantScript(t, "the first other", d, []string{"1", "two", "three"}, page(5, 0, 2, "1"), block(2, 5, 3, 4))
	wantScript(t, "the middle other", d, []string{"one", "2", "three"}, page(5, 1, 2, "2"), block(2, 2, 5, 4))
	wantScript(t, "the last other", d, []string{"one", "two", ""}, page(5, 2, 2, ""), block(2, 2, 3, 5))
	wantScript(t, "two exchanged", d, []string{"two", "one", "three"}, page(5, 0, 2, "two"), page(6, 1, 2, "one"), block(2, 5, 6, 4))
	wantScript(t, "moved by one", d, []string{"zero", "one", "two", "three"}, page(5, 0, 2, "zero"), page(6, 1, 2, "one"), page(7, 2, 2, "two"), page(8, 3, 2, "three"), block(2, 5, 6, 7, 8))
	wantScript(t, "two alike each other", d, []string{"one", "one", "one"}, page(5, 1, 2, "one"), page(6, 2, 2, "one"), block(2, 2, 5, 6))
}

func TestAKeptPageKeepsItsEpoch(t *testing.T) {
	d := mustCommit(t, impl.NewDisk(), "one", "two")
	for range 20 {
		d = mustCommit(t, d, "one", "two")
	}
	if d.Sectors[2] != pageOf(0, 1, "one") || d.Sectors[3] != pageOf(1, 1, "two") {
		t.Fatal(d.Sectors[2], d.Sectors[3])
	}
	wantNewest(t, "kept", d, super{21, []int64{2, 3}}, "one", "two")
	wantNewest(t, "the one ahead of it", diskWith(map[int64]string{0: d.Sectors[0], 2: d.Sectors[2], 3: d.Sectors[3]}), super{20, []int64{2, 3}}, "one", "two")
}

func TestTheLeastFreeSectorsAreTaken(t *testing.T) {
	d := mustCommit(t, impl.NewDisk(), "a", "b", "c")
	d = mustCommit(t, d, "a", "B", "c")
	wantNewest(t, "the second", d, super{2, []int64{2, 5, 4}}, "a", "B", "c")
	wantScript(t, "what is left is taken again", d, []string{"A", "B", "C", "D"}, page(3, 0, 3, "A"), page(6, 2, 3, "C"), page(7, 3, 3, "D"), block(3, 3, 5, 6, 7))
	gaps := diskWith(map[int64]string{0: superOf(4, 3, 63, 5), 3: pageOf(0, 4, "x"), 63: pageOf(1, 4, "y"), 5: pageOf(2, 4, "z")})
	wantScript(t, "gaps", gaps, []string{"X", "Y", "Z"}, page(2, 0, 5, "X"), page(4, 1, 5, "Y"), page(6, 2, 5, "Z"), block(5, 2, 4, 6))
}

func TestMaxPagesTwice(t *testing.T) {
	first, second := make([]string, 30), make([]string, 30)
	for i := range first {
		first[i], second[i] = aText(byte(i), 200), aText(byte(i+1), 200)
	}
	d := mustCommit(t, impl.NewDisk(), first...)
	wantNewest(t, "30", d, super{1, sectorsFrom(2, 30)}, first...)
	d = mustCommit(t, d, second...)
	wantNewest(t, "30 others", d, super{2, sectorsFrom(32, 30)}, second...)
	d = mustCommit(t, d, first...)
	wantNewest(t, "30 again", d, super{3, sectorsFrom(2, 30)}, first...)
	if d.Sectors[62] != "" || d.Sectors[63] != "" {
		t.Error("a sector was taken that is not among the least")
	}
}

// TestTheEpochOfAnUnsoundSuperblockCounts has a sound one of epoch 2, or none, beside it.
func TestTheEpochOfAnUnsoundSuperblockCounts(t *testing.T) {
	sound := map[int64]string{0: superOf(2, 5, 9), 5: pageOf(0, 2, "five"), 9: pageOf(1, 2, "nine")}
	d := diskWith(sound)
	d.Sectors[1] = superOf(7, 5, 10)
	wantScript(t, "an unsound one above", d, []string{"five", "ten"}, page(2, 1, 8, "ten"), block(8, 5, 2))
	d.Sectors[1] = superOf(8, 5, 10)
	wantScript(t, "an unsound one at another's sector", d, []string{"five", "ten"}, page(2, 1, 9, "ten"), block(9, 5, 2))
	d.Sectors[1] = superOf(1, 5, 10)
	wantScript(t, "an unsound one below", d, []string{"five", "ten"}, page(2, 1, 3, "ten"), block(3, 5, 2))
	d.Sectors[1] = superOf(7, 5, 10)[:9]
	wantScript(t, "a torn one", d, []string{"five", "ten"}, page(2, 1, 3, "ten"), block(3, 5, 2))
	d.Sectors[1] = superOf(7, 5, 5)
	wantScript(t, "one with two alike", d, []string{"five", "ten"}, page(2, 1, 3, "ten"), block(3, 5, 2))
	alone := diskWith(map[int64]string{0: superOf(7, 2, 3), 1: superOf(5, 2)})
	wantScript(t, "unsound ones alone", alone, []string{"a"}, page(2, 0, 8, "a"), block(8, 2))
}

// TestSectorsOfAnUnsoundSuperblockAreFree: only those of the newest are spared.
func TestSectorsOfAnUnsoundSuperblockAreFree(t *testing.T) {
	d := diskWith(map[int64]string{0: superOf(4, 3), 3: pageOf(0, 3, "x"), 1: superOf(5, 2, 4), 2: pageOf(0, 5, "y")})
	wantScript(t, "the unsound one's page is not kept", d, []string{"y", "z"}, page(2, 0, 6, "y"), page(4, 1, 6, "z"), block(6, 2, 4))
	d.Sectors[4] = pageOf(1, 5, "Z")
	wantScript(t, "sound, it is", d, []string{"y", "z"}, page(3, 1, 6, "z"), block(6, 2, 3))
}

func TestTheLastEpoch(t *testing.T) {
	d := diskWith(map[int64]string{0: superOf(999999998, 2), 2: pageOf(0, 1, "x")})
	wantScript(t, "one below it", d, []string{"y"}, page(3, 0, 999999999, "y"), block(999999999, 3))
	last := mustCommit(t, d, "y")
	wantNewest(t, "the last one", last, super{999999999, []int64{3}}, "y")
	for _, bodies := range [][]string{nil, {"y"}, {"z"}, {"y", "z"}} {
		wantScript(t, "past it", last, bodies)
	}
	for at := range int64(2) {
		for _, bodies := range [][]string{nil, {"x"}, {"y"}} {
			wantScript(t, "an unsound one of the last epoch", diskWith(map[int64]string{at: superOf(999999999, 60), 1 - at: superOf(5, 2), 2: pageOf(0, 1, "x")}), bodies)
		}
	}
}

func TestBodiesAtTheirLimits(t *testing.T) {
	full, long := aText('f', 200), aText('f', 201)
	old := mustCommit(t, impl.NewDisk(), "a", full)
	for _, d := range []impl.Disk{impl.NewDisk(), fullDisk(), old} {
		for n := 29; n <= 33; n++ {
			if _, is := impl.Commit(d, make([]string, n)); is != (n <= 30) {
				t.Errorf("%d bodies: %v", n, is)
			}
		}
		wantScript(t, "31 bodies", d, make([]string, 31))
		wantScript(t, "100000 bodies", d, make([]string, 100000))
		wantScript(t, "a body too long", d, []string{long})
		wantScript(t, "the last body too long", d, []string{"a", full, "b", long})
		wantScript(t, "the first body too long", d, []string{long, full, "b"})
		wantScript(t, "101 runes", d, []string{string(slices.Repeat([]rune{0xe9}, 101))})
		wantScript(t, "a body much too long", d, []string{aText('f', 100000)})
		if _, is := impl.Commit(d, slices.Repeat([]string{full}, 30)); !is {
			t.Error("30 full bodies are refused")
		}
	}
}

func TestLateWritesAreGivenUp(t *testing.T) {
	held := mustCommit(t, impl.NewDisk(), "one", "two")
	d := lateDisk(t, held, page(2, 0, 1, "ONE"), impl.Write{Sector: 1}, block(8, 2), impl.Write{Sector: 40, Text: "late"})
	wantScript(t, "late writes", d, []string{"one", "three"}, page(4, 1, 2, "three"), block(2, 2, 4))
	if got := mustCommit(t, d, "one", "three"); !sameDisk(got, mustCommit(t, held, "one", "three")) {
		t.Error("a late write shows")
	}
	d.Late = slices.Repeat([]impl.Write{{Sector: 3, Text: "late"}}, 200)
	wantScript(t, "200 late writes", d, []string{"one", "three"}, page(4, 1, 2, "three"), block(2, 2, 4))
}

func TestPagesOfCommitAreTheBodies(t *testing.T) {
	n := numbers(32)
	for range 60 {
		d := drawnShadow(&n)
		for range 12 {
			bodies := drawnBodies(&n, 30)
			out, is := impl.Commit(d, bodies)
			if is != (len(modelScript(d, bodies)) > 0) {
				t.Fatalf("a commit of %d bodies: %v", len(bodies), is)
			}
			if !is {
				break
			}
			if got, _ := impl.Pages(out); !slices.Equal(got, bodies) {
				t.Fatalf("the pages are %q, not %q", got, bodies)
			}
			d = out
		}
	}
}

func TestDrawnCommits(t *testing.T) {
	n := numbers(33)
	refused := 0
	for range 2000 {
		d, bodies := drawnShadow(&n), drawnBodies(&n, 31)
		want := modelScript(d, bodies)
		if len(want) == 0 {
			refused++
		}
		wantScript(t, "drawn", d, bodies, want...)
		if t.Failed() {
			t.FailNow()
		}
	}
	if refused < 100 || refused > 1500 {
		t.Fatal("refused", refused)
	}
}
