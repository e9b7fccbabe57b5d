package tests

import (
	"math"
	"slices"
	"testing"

	"loop.example/g00140/impl"
)

// twoPages is a disk of which commits put pages to sectors 4 and on, and a superblock to sector 0.
func twoPages(t *testing.T) impl.Disk {
	t.Helper()
	return mustCommit(t, impl.NewDisk(), "one", "two")
}

// wantCut fails unless power that fails so leaves these sectors other than those of d, and nothing late.
func wantCut(t *testing.T, d impl.Disk, bodies []string, done int64, lands []bool, torn int64, other ...impl.Write) {
	t.Helper()
	want := modelCrash(impl.Disk{Sectors: d.Sectors, Late: other}, allTrue(len(other)), -1)
	if got := impl.Cut(d, bodies, done, lands, torn); !sameDisk(got, want) {
		t.Errorf("done %d, lands %v, torn %d: %q", done, lands, torn, got.Sectors[:8])
	}
}

func TestCutAtEachCount(t *testing.T) {
	d, bodies := twoPages(t), []string{"one", "three", "four"}
	three, four, last := page(4, 1, 2, "three"), page(5, 2, 2, "four"), block(2, 2, 4, 5)
	if got := impl.Script(d, bodies); !slices.Equal(got, []impl.Write{three, four, last}) {
		t.Fatal(got)
	}
	wantCut(t, d, bodies, 0, allTrue(9), -1)
	wantCut(t, d, bodies, 0, allTrue(9), 0)
	wantCut(t, d, bodies, 1, nil, -1)
	wantCut(t, d, bodies, 1, allTrue(9), -1, three)
	wantCut(t, d, bodies, 2, nil, -1)
	wantCut(t, d, bodies, 2, []bool{true}, -1, three)
	wantCut(t, d, bodies, 2, []bool{false, true}, -1, four)
	wantCut(t, d, bodies, 2, allTrue(9), -1, three, four)
	for _, done := range []int64{3, 4, 5, 100, 1 << 31, 1 << 32, 1<<32 + 1, math.MaxInt64} {
		wantCut(t, d, bodies, done, nil, -1, three, four)
		wantCut(t, d, bodies, done, []bool{false, true, true}, -1, three, four)
		wantCut(t, d, bodies, done, []bool{true}, -1, three, four, last)
		wantCut(t, d, bodies, done, allTrue(9), 1, three, four, last)
		wantCut(t, d, bodies, done, allTrue(9), 2, three, four, last)
	}
}

func TestCutThatTears(t *testing.T) {
	d, bodies := twoPages(t), []string{"one", "three", "four"}
	three, four, last := page(4, 1, 2, "three"), page(5, 2, 2, "four"), block(2, 2, 4, 5)
	half := func(w impl.Write) impl.Write {
		return impl.Write{Sector: w.Sector, Text: w.Text[:len(w.Text)/2]}
	}
	wantCut(t, d, bodies, 1, nil, 0, half(three))
	wantCut(t, d, bodies, 1, allTrue(9), 0, half(three))
	wantCut(t, d, bodies, 1, allTrue(9), 1, three)
	wantCut(t, d, bodies, 2, nil, 1, half(four))
	wantCut(t, d, bodies, 2, allTrue(9), 0, half(three), four)
	wantCut(t, d, bodies, 3, nil, 0, three, four, half(last))
	wantCut(t, d, bodies, 3, allTrue(9), 0, three, four, half(last))
	d.Sectors[0], d.Sectors[4] = aText('o', 256), aText('p', 20)
	torn := impl.Write{Sector: 4, Text: three.Text[:len(three.Text)/2] + d.Sectors[4][len(three.Text)/2:]}
	wantCut(t, d, bodies, 1, nil, 0, torn)
	torn = impl.Write{Sector: 0, Text: last.Text[:len(last.Text)/2] + d.Sectors[0][len(last.Text)/2:]}
	wantCut(t, d, bodies, 3, nil, 0, three, four, torn)
	for _, far := range farNumbers {
		wantCut(t, d, bodies, 2, []bool{true}, far, three)
	}
}

func TestCutOfASuperblockAlone(t *testing.T) {
	d := twoPages(t)
	for _, bodies := range [][]string{{"one", "two"}, {"one"}, nil} {
		last := impl.Script(d, bodies)
		if len(last) != 1 {
			t.Fatal(last)
		}
		wantCut(t, d, bodies, 0, allTrue(9), 0)
		wantCut(t, d, bodies, 1, nil, -1)
		wantCut(t, d, bodies, 1, allTrue(1), -1, last[0])
		wantCut(t, d, bodies, 2, allTrue(1), -1, last[0])
	}
}

func TestCutIsRefused(t *testing.T) {
	d := twoPages(t)
	spent := diskWith(map[int64]string{1: superOf(999999999)})
	for _, lands := range [][]bool{nil, {true}, allTrue(40)} {
		for _, torn := range []int64{-1, 0, 1} {
			for _, done := range append([]int64{0, 1, 2, 3, 31, 100}, farNumbers...) {
				refused := []impl.Disk{impl.Cut(d, make([]string, 31), done, lands, torn), impl.Cut(d, []string{aText('x', 201)}, done, lands, torn), impl.Cut(spent, nil, done, lands, torn), impl.Cut(spent, []string{"x"}, done, lands, torn)}
				if done < 0 {
					refused = append(refused, impl.Cut(d, nil, done, lands, torn), impl.Cut(d, []string{"one", "x"}, done, lands, torn), impl.Cut(impl.NewDisk(), nil, done, lands, torn))
				}
				for i, got := range refused {
					if !isZeroDisk(got) {
						t.Errorf("case %d, done %d: not the zero Disk", i, done)
					}
				}
			}
		}
	}
}

func TestCutGivesUpLateWrites(t *testing.T) {
	held := twoPages(t)
	d := lateDisk(t, held, page(2, 0, 1, "ONE"), impl.Write{Sector: 1}, block(8, 2), impl.Write{Sector: 40, Text: "late"})
	bodies := []string{"one", "three", "four"}
	for done := range int64(6) {
		for bits := range 16 {
			for torn := int64(-1); torn < 4; torn++ {
				if !sameDisk(impl.Cut(d, bodies, done, bitsOf(bits, 4), torn), impl.Cut(held, bodies, done, bitsOf(bits, 4), torn)) {
					t.Fatalf("a late write shows: done %d, lands %v, torn %d", done, bitsOf(bits, 4), torn)
				}
			}
		}
	}
}

func TestDrawnCuts(t *testing.T) {
	n := numbers(34)
	for range 4000 {
		d, bodies := drawnShadow(&n), drawnBodies(&n, 8)
		if n.below(10) == 0 {
			bodies = drawnBodies(&n, 31)
		}
		done, torn := int64(n.below(len(bodies)+5)-1), int64(n.below(len(bodies)+4)-1)
		lands := drawnLands(&n, len(bodies))
		if got, want := impl.Cut(d, bodies, done, lands, torn), modelCut(d, bodies, done, lands, torn); !sameDisk(got, want) {
			t.Fatalf("%d bodies, done %d, lands %v, torn %d:\n%q\nnot\n%q", len(bodies), done, lands, torn, got.Sectors, want.Sectors)
		}
	}
}

// allOrNone fails unless the pages after the cut are those of before or those of the commit, epoch and all.
func allOrNone(t *testing.T, d impl.Disk, bodies []string, done int64, lands []bool, torn int64) impl.Disk {
	t.Helper()
	before, old := impl.Pages(d)
	after, _ := impl.Commit(d, bodies)
	_, epoch := impl.Pages(after)
	cut := impl.Cut(d, bodies, done, lands, torn)
	got, now := impl.Pages(cut)
	isOld := now == old && slices.Equal(got, before)
	isNew := now == epoch && slices.Equal(got, bodies)
	put := done >= int64(len(impl.Script(d, bodies)))
	landed := put && len(lands) > 0 && lands[0] && torn != 0
	if landed != isNew || landed == isOld {
		t.Fatalf("done %d, lands %v, torn %d: pages %q of epoch %d, before %q of %d, after %q of %d", done, lands, torn, got, now, before, old, bodies, epoch)
	}
	return cut
}

// TestAllPagesAtOnceOrNone goes through every cut of each commit in a row of them.
func TestAllPagesAtOnceOrNone(t *testing.T) {
	rows := [][]string{{}, {"one"}, {"one", "two"}, {"one", "two"}, {"1", "two", "three"}, {"1", "2", "3", "4"}, {}, {"", "", ""}, {"1"}, {"1", "2", "3", "4"}, {"4", "3", "2", "1"}}
	d := impl.NewDisk()
	for _, bodies := range rows {
		script := len(impl.Script(d, bodies))
		for done := range int64(script + 2) {
			for bits := range 1 << script {
				for torn := int64(-1); torn <= int64(script); torn++ {
					allOrNone(t, d, bodies, done, bitsOf(bits, script), torn)
				}
			}
		}
		d = mustCommit(t, d, bodies...)
	}
}

// TestCommitsGoOnAfterCuts: what a cut leaves behind is in no later commit's way.
func TestCommitsGoOnAfterCuts(t *testing.T) {
	n := numbers(35)
	for range 200 {
		d := impl.NewDisk()
		for range 20 {
			bodies := drawnBodies(&n, 30)
			if n.below(3) == 0 {
				d = mustCommit(t, d, bodies...)
				if got, _ := impl.Pages(d); !slices.Equal(got, bodies) {
					t.Fatalf("the pages are %q, not %q", got, bodies)
				}
				continue
			}
			script := len(impl.Script(d, bodies))
			lands, torn := drawnLands(&n, script), int64(n.below(script+2)-1)
			done := int64(n.below(script))
			if n.below(2) == 0 {
				done = int64(script)
			}
			cut := allOrNone(t, d, bodies, done, lands, torn)
			if otherIsSoundOrEmpty(cut) {
				d = cut
			}
		}
	}
}

// otherIsSoundOrEmpty says whether promise 3 speaks of this disk: a torn superblock it does not.
func otherIsSoundOrEmpty(d impl.Disk) bool {
	epoch, _ := impl.Newest(d)
	other := 1 - epoch%2
	if d.Sectors[other] == "" {
		return true
	}
	alone := impl.Disk{Sectors: slices.Clone(d.Sectors)}
	alone.Sectors[epoch%2] = ""
	sound, _ := impl.Newest(alone)
	return sound > 0
}
