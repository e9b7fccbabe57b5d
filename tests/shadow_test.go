package tests

import (
	"slices"
	"strconv"
	"testing"

	"loop.example/g00140/impl"
)

func TestSuperTextOfKnownSuperblocks(t *testing.T) {
	cases := []struct {
		epoch   int64
		sectors []int64
		want    string
	}{
		{2, []int64{5, 9}, "S2;2;5;9;257787384"},
		{1, nil, rawSuper("S1;0;")},
		{1, []int64{}, rawSuper("S1;0;")},
		{10, []int64{63, 2}, rawSuper("S10;2;63;2;")},
		{999999999, []int64{40}, rawSuper("S999999999;1;40;")},
	}
	for _, c := range cases {
		if got, is := impl.SuperText(c.epoch, c.sectors); !is || got != c.want {
			t.Errorf("epoch %d with %v is %q, %v, not %q", c.epoch, c.sectors, got, is, c.want)
		}
	}
}

func TestSuperTextAtItsLimits(t *testing.T) {
	cases := []struct {
		epoch   int64
		sectors []int64
		want    bool
	}{
		{-1, []int64{5}, false}, {0, []int64{5}, false}, {0, nil, false}, {1, []int64{5}, true},
		{999999999, []int64{5}, true}, {1000000000, []int64{5}, false}, {1000000000, nil, false},
		{7, nil, true}, {7, sectorsFrom(2, 29), true}, {7, sectorsFrom(2, 30), true}, {7, sectorsFrom(34, 30), true},
		{7, sectorsFrom(2, 31), false}, {7, sectorsFrom(2, 62), false}, {7, make([]int64, 100000), false},
		{7, []int64{0}, false}, {7, []int64{1}, false}, {7, []int64{2}, true}, {7, []int64{63}, true}, {7, []int64{64}, false},
		{7, []int64{2, 1}, false}, {7, []int64{1, 2}, false}, {7, []int64{63, 64}, false}, {7, []int64{64, 63}, false}, {7, []int64{5, -5}, false},
		{7, []int64{63, 2}, true}, {7, []int64{5, 5}, false}, {7, []int64{5, 6, 5}, false}, {7, []int64{6, 5, 5}, false}, {7, []int64{5, 5, 6}, false},
		{7, append(sectorsFrom(2, 29), 2), false}, {7, append(sectorsFrom(2, 29), 30), false}, {7, append(sectorsFrom(2, 29), 31), true},
	}
	for _, far := range append([]int64{65, 66, 258, 1<<32 + 2}, farNumbers...) {
		cases = append(cases, struct {
			epoch   int64
			sectors []int64
			want    bool
		}{7, []int64{5, far}, false})
		if far < 0 || far > 999999999 {
			cases = append(cases, struct {
				epoch   int64
				sectors []int64
				want    bool
			}{far, []int64{5}, false})
		}
	}
	for _, c := range cases {
		want := ""
		if c.want {
			want = superOf(c.epoch, c.sectors...)
		}
		if got, is := impl.SuperText(c.epoch, c.sectors); is != c.want || got != want {
			t.Errorf("epoch %d with %.40v is %q, %v", c.epoch, c.sectors, got, is)
		}
	}
}

func TestASuperTextFitsASector(t *testing.T) {
	text, is := impl.SuperText(999999999, sectorsFrom(34, 30))
	if !is || len(text) > impl.SectorSize {
		t.Fatal(len(text), is)
	}
}

// bothPages are two pages at sectors 5 and 9 of epoch 2.
func bothPages() map[int64]string {
	return map[int64]string{5: pageOf(0, 2, "five"), 9: pageOf(1, 2, "nine")}
}

func TestNewestOfNone(t *testing.T) {
	wantNewest(t, "a new disk", impl.NewDisk(), super{})
	wantNewest(t, "pages alone", diskWith(bothPages()), super{})
	texts := bothPages()
	for _, at := range []int64{2, 3, 63} {
		texts[at] = superOf(2, 5, 9)
	}
	wantNewest(t, "superblocks at sectors of pages", diskWith(texts), super{})
}

func TestNewestOfOne(t *testing.T) {
	for at := range int64(2) {
		for _, epoch := range []int64{2, 3, 10, 999999999} {
			texts := bothPages()
			texts[at] = superOf(epoch, 5, 9)
			name := "epoch " + digits(epoch) + " at sector " + digits(at)
			wantNewest(t, name, diskWith(texts), super{epoch, []int64{5, 9}}, "five", "nine")
			texts[1-at] = "S" + digits(epoch+1)
			wantNewest(t, name+" beside a torn one", diskWith(texts), super{epoch, []int64{5, 9}}, "five", "nine")
		}
		wantNewest(t, "no pages", diskWith(map[int64]string{at: superOf(1)}), super{1, nil})
	}
}

func TestNewestOfTwo(t *testing.T) {
	for _, c := range []struct {
		first, second int64
		at            int
	}{{3, 2, 0}, {2, 3, 1}, {3, 3, 0}, {10, 9, 0}, {9, 10, 1}, {999999999, 2, 0}, {2, 999999999, 1}, {999999999, 999999999, 0}} {
		texts := bothPages()
		texts[7] = pageOf(0, 1, "seven")
		texts[0], texts[1] = superOf(c.first, 5, 9), superOf(c.second, 7)
		name := digits(c.first) + " and " + digits(c.second)
		if c.at == 0 {
			wantNewest(t, name, diskWith(texts), super{c.first, []int64{5, 9}}, "five", "nine")
		} else {
			wantNewest(t, name, diskWith(texts), super{c.second, []int64{7}}, "seven")
		}
	}
}

// TestUnsoundSuperblocksAreNotTheNewest has an older sound one beside each.
func TestUnsoundSuperblocksAreNotTheNewest(t *testing.T) {
	whole := pageOf(1, 3, "nine")
	pages := map[string]string{
		"an empty sector": "", "a torn page": whole[:len(whole)/2], "a page of which a bit is another": whole[:len(whole)-1] + "d",
		"another page's number": pageOf(0, 3, "nine"), "the next page's number": pageOf(2, 3, "nine"), "a greater epoch": pageOf(1, 4, "nine"),
		"the greatest epoch": pageOf(1, 999999999, "nine"), "a superblock": superOf(3, 5, 9), "a page with more behind": whole + "\n",
		"number 30": pageOf(30, 3, "nine"), "a body too long": pageOf(1, 3, aText('n', 201)),
	}
	for name, text := range pages {
		for at := range int64(2) {
			d := diskWith(map[int64]string{5: pageOf(0, 3, "five"), 9: text, 7: pageOf(0, 1, "seven"), at: superOf(3, 5, 9)})
			wantNewest(t, name+", alone", d, super{})
			d.Sectors[1-at] = superOf(2, 7)
			wantNewest(t, name, d, super{2, []int64{7}}, "seven")
		}
	}
}

func TestPagesOfOlderEpochsAreSound(t *testing.T) {
	for _, epoch := range []int64{0, 1, 2, 3} {
		d := diskWith(map[int64]string{0: superOf(3, 63, 2), 63: pageOf(0, 3, "last"), 2: pageOf(1, epoch, "first")})
		wantNewest(t, "a page of epoch "+digits(epoch), d, super{3, []int64{63, 2}}, "last", "first")
	}
}

func TestMaxPagesAreSound(t *testing.T) {
	texts, bodies := map[int64]string{}, []string{}
	for i := range int64(30) {
		bodies = append(bodies, aText(byte(i), 200-int(i)))
		texts[63-i] = pageOf(i, 1, bodies[i])
	}
	sectors := sectorsFrom(34, 30)
	slices.Reverse(sectors)
	texts[1] = superOf(1, sectors...)
	wantNewest(t, "30 pages", diskWith(texts), super{1, sectors}, bodies...)
	texts[33], texts[1] = pageOf(29, 1, "x"), superOf(1, append(sectors, 33)...)
	wantNewest(t, "31 pages", diskWith(texts), super{})
}

// wrongSupers are texts that are nearly one of two sound pages at sectors 5 and 9.
func wrongSupers() []string {
	right := superOf(2, 5, 9)
	out := []string{
		"", "S", "S;", "S2", "S2;", "S2;2", "S2;2;5;9", "S2;2;5;9;", "s2;2;5;9;257787384", "P2;2;5;9;257787384", "2;2;5;9;257787384",
		right + ";", right + "\n", right + " ", right + "0", " " + right, "S" + right, right[:len(right)-1], right + right,
		"S2;2;5;9;0257787384", "S2;2;5;9;+257787384", "S2;2;5;9;-257787384", "S2;2;5;9;257787385", "S2;2;5;9;" + digits(modelCrc("2;2;5;9;")),
		"S2;2;5;9;" + digits(modelCrc("S2;2;5;9")), "S2;2;5;9;" + digits(257787384+1<<32), "S2;2;5;9;0", "S2;2;5;9;x",
	}
	for _, text := range []string{
		"S0;2;5;9;", "S02;2;5;9;", "S+2;2;5;9;", "S-2;2;5;9;", "S 2;2;5;9;", "S1000000000;2;5;9;", "S4294967298;2;5;9;", "S99999999999999999999;2;5;9;", "S;2;5;9;", "Sx;2;5;9;",
		"S2;02;5;9;", "S2;+2;5;9;", "S2;-2;5;9;", "S2;;5;9;", "S2;x;5;9;", "S2;1;5;9;", "S2;3;5;9;", "S2;0;5;9;", "S2;999999999;5;9;", "S2;1000000000;5;9;", "S2;31;5;9;", "S2;-1;5;9;",
		"S2;2;05;9;", "S2;2;+5;9;", "S2;2;-5;9;", "S2;2; 5;9;", "S2;2;5;9 ;", "S2;2;5;;9;", "S2;2;5;;", "S2;2;5;x;", "S2;2;5;9;;", "S2;2;5,9;", "S2;2;5;9", "S2,2,5,9,", "S2;2;5;5;", "S2;2;5;4294967305;",
		"S2;2;0;9;", "S2;2;1;9;", "S2;2;5;1;", "S2;2;5;64;", "S2;2;5;0;", "S2;2;5;100;", "S2;00;", "S2;-0;", "S0;0;", "S1000000000;0;", "", "S2;", "S2", "S;0;", "Ss2;0;", "S2;2;5;9;" + right + ";",
	} {
		out = append(out, rawSuper(text))
	}
	return out
}

func TestTextsThatAreNoSuperblock(t *testing.T) {
	for _, text := range wrongSupers() {
		if _, is := modelSuper(text); is {
			t.Fatalf("%q is one", text)
		}
		for at := range int64(2) {
			texts := bothPages()
			texts[0], texts[1], texts[7] = superOf(1, 7), superOf(1, 7), pageOf(0, 1, "seven")
			texts[at] = text
			d := diskWith(texts)
			wantNewest(t, strconv.Quote(text), d, super{1, []int64{7}}, "seven")
			if w := impl.Script(d, nil); len(w) != 1 || w[0] != (impl.Write{Sector: 0, Text: superOf(2)}) {
				t.Errorf("beside %q the next commit writes %v", text, w)
			}
		}
	}
}

func TestOneBitOfASuperblockIsTold(t *testing.T) {
	right := superOf(2, 5, 9)
	for i := range len(right) {
		for bit := range 8 {
			turned := []byte(right)
			turned[i] ^= 1 << bit
			texts := bothPages()
			texts[0] = string(turned)
			wantNewest(t, strconv.Quote(texts[0]), diskWith(texts), super{})
		}
	}
}

func TestLateWritesDoNotCount(t *testing.T) {
	texts := bothPages()
	texts[0] = superOf(2, 5, 9)
	d := lateDisk(t, diskWith(texts), impl.Write{Sector: 5}, impl.Write{Sector: 0}, impl.Write{Sector: 7, Text: pageOf(0, 1, "seven")}, impl.Write{Sector: 1, Text: superOf(8, 7)})
	wantNewest(t, "late", d, super{2, []int64{5, 9}}, "five", "nine")
	wantNewest(t, "held", impl.Hold(d), super{8, []int64{7}}, "seven")
}

func TestDrawnDisksTellTheirPages(t *testing.T) {
	n := numbers(31)
	seen := map[bool]int{}
	for range 4000 {
		d := drawnShadow(&n)
		want, bodies := modelPages(d)
		seen[want.epoch > 0]++
		wantNewest(t, "drawn", d, want, bodies...)
		if t.Failed() {
			t.Fatalf("superblocks %q and %q", d.Sectors[0], d.Sectors[1])
		}
	}
	if seen[true] < 1000 || seen[false] < 200 {
		t.Fatal("too few of one kind", seen)
	}
}

func TestBodiesOfAnyBytesComeBack(t *testing.T) {
	bodies := someBodies()
	d := mustCommit(t, impl.NewDisk(), bodies...)
	wantNewest(t, "bodies", d, super{1, sectorsFrom(2, len(bodies))}, bodies...)
}
