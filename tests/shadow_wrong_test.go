package tests

import (
	"slices"
	"testing"

	"loop.example/g00140/impl"
)

// wrongShadows are wrong disks whose first sectors hold a sound superblock and its page, if there are so many.
func wrongShadows() []namedDisk {
	out := wrongDisks()
	for i, c := range out {
		d := impl.Disk{Sectors: slices.Clone(c.disk.Sectors), Late: c.disk.Late}
		if len(d.Sectors) > 2 {
			for at, text := range []string{superOf(1, 2), superOf(2, 2), pageOf(0, 1, "x")} {
				if len(d.Sectors[at]) <= 256 {
					d.Sectors[at] = text
				}
			}
		}
		out[i].disk = d
	}
	return append(out, wrongDisks()...)
}

func TestWrongDisksHaveNoPages(t *testing.T) {
	for _, c := range wrongShadows() {
		unshadowed(t, c.name, c.disk)
	}
}

func unshadowed(t *testing.T, name string, d impl.Disk) {
	defer noPanic(t, name)
	wantNewest(t, name, d, super{})
	for _, bodies := range [][]string{nil, {}, {"x"}, {"x", "y"}, make([]string, 30), make([]string, 31), {aText('x', 201)}} {
		wantScript(t, name, d, bodies)
		for _, done := range []int64{-1, 0, 1, 2, 40} {
			for _, lands := range [][]bool{nil, {true}, allTrue(40)} {
				if !isZeroDisk(impl.Cut(d, bodies, done, lands, 0)) {
					t.Errorf("%s: Cut with done %d is not the zero Disk", name, done)
				}
			}
		}
	}
}

func TestShadowsAnswerFarNumbers(t *testing.T) {
	defer noPanic(t, "far numbers")
	n := numbers(36)
	for _, d := range []impl.Disk{impl.NewDisk(), fullDisk(), twoPages(t), drawnShadow(&n), drawnDisk(&n, 200)} {
		for _, done := range append([]int64{0, 1, 2, 3, 30, 31, 32}, farNumbers...) {
			for _, torn := range append([]int64{0, 1, 2, 30, 31}, farNumbers...) {
				for _, lands := range [][]bool{nil, {}, {true}, allTrue(1000)} {
					bodies := []string{"one", "three", ""}
					if got := impl.Cut(d, bodies, done, lands, torn); !sameDisk(got, modelCut(d, bodies, done, lands, torn)) {
						t.Fatalf("done %d, torn %d", done, torn)
					}
				}
			}
		}
	}
}

// TestSectorsOfAnyText has texts that are no superblocks and no pages, and some that are half so.
func TestSectorsOfAnyText(t *testing.T) {
	defer noPanic(t, "sectors of any text")
	n := numbers(37)
	texts := append(wrongSupers(), "P", "P0;0;0;", pageOf(0, 1, ""), superOf(1, 2), superOf(2, 2, 3), superOf(3), superOf(999999999, 2), "\x00", "S\xff;", aText('S', 256))
	for range 3000 {
		d := impl.NewDisk()
		for i := range 5 {
			d.Sectors[i] = texts[n.below(len(texts))]
			if len(d.Sectors[i]) > 256 {
				d.Sectors[i] = ""
			}
		}
		want, bodies := modelPages(d)
		wantNewest(t, "any text", d, want, bodies...)
		wantScript(t, "any text", d, []string{"", "x"}, modelScript(d, []string{"", "x"})...)
		if t.Failed() {
			t.Fatalf("%q", d.Sectors[:5])
		}
	}
}
