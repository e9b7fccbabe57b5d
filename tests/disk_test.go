package tests

import (
	"slices"
	"strings"
	"testing"

	"loop.example/g00140/impl"
)

func TestDiskLimits(t *testing.T) {
	if impl.MaxSectors != 64 || impl.SectorSize != 256 || impl.MaxLate != 200 {
		t.Fatal(impl.MaxSectors, impl.SectorSize, impl.MaxLate)
	}
}

func TestNewDisk(t *testing.T) {
	wantSectors(t, impl.NewDisk(), nil)
	if !impl.DiskOk(impl.NewDisk()) {
		t.Fatal("a new disk is not DiskOk")
	}
}

func TestDiskOkAtItsLimits(t *testing.T) {
	full := impl.NewDisk()
	for i := range full.Sectors {
		full.Sectors[i] = aText(byte(i), 256)
	}
	full.Late = make([]impl.Write, 200)
	for i := range full.Late {
		full.Late[i] = impl.Write{Sector: int64(i % 64), Text: aText(byte(i), 256)}
	}
	runes := impl.NewDisk()
	runes.Sectors[63] = strings.Repeat("\u00e9", 128)
	runes.Late = []impl.Write{{Sector: 63, Text: strings.Repeat("\u00e9", 128)}}
	emptyLists := impl.Disk{Sectors: make([]string, 64), Late: []impl.Write{}}
	for i, d := range []impl.Disk{full, runes, emptyLists, fullDisk()} {
		if !impl.DiskOk(d) {
			t.Errorf("disk %d is not DiskOk", i)
		}
	}
}

func TestPut(t *testing.T) {
	d := fullDisk()
	writes := []impl.Write{{Sector: 5, Text: "abcd"}, {Sector: 0, Text: ""}, {Sector: 63, Text: "x\x00\xff"}, {Sector: 5, Text: "abcd"}, {Sector: 5, Text: "ef"}}
	for i, w := range writes {
		next, is := impl.Put(d, w.Sector, w.Text)
		if !is || !slices.Equal(next.Sectors, fullDisk().Sectors) || !slices.Equal(next.Late, writes[:i+1]) {
			t.Fatalf("write %d: %v, late: %v", i, is, next.Late)
		}
		d = next
	}
}

func TestPutAtItsLimits(t *testing.T) {
	cases := []struct {
		sector int64
		text   string
		want   bool
	}{
		{-1, "a", false}, {0, "a", true}, {63, "a", true}, {64, "a", false},
		{-1, "", false}, {64, "", false},
		{7, "", true}, {7, aText('q', 255), true}, {7, aText('q', 256), true}, {7, aText('q', 257), false},
		{7, strings.Repeat("\u00e9", 128), true}, {7, strings.Repeat("\u00e9", 128) + "e", false},
		{7, aText('q', 100000), false},
	}
	for _, sector := range farNumbers {
		cases = append(cases, struct {
			sector int64
			text   string
			want   bool
		}{sector, "a", false})
	}
	for _, c := range cases {
		d, is := impl.Put(fullDisk(), c.sector, c.text)
		if is != c.want {
			t.Errorf("sector %d, %d bytes: %v", c.sector, len(c.text), is)
		}
		want := impl.Disk{}
		if c.want {
			want = fullDisk()
			want.Late = []impl.Write{{Sector: c.sector, Text: c.text}}
		}
		if !sameDisk(d, want) {
			t.Errorf("sector %d, %d bytes: another disk", c.sector, len(c.text))
		}
	}
}

func TestTwoHundredLateAndOneMore(t *testing.T) {
	d := fullDisk()
	for i := range 200 {
		next, is := impl.Put(d, int64(i%64), aText(byte(i), i))
		if !is || len(next.Late) != i+1 || !impl.DiskOk(next) {
			t.Fatalf("late write %d: %v, %d late", i, is, len(next.Late))
		}
		d = next
	}
	if more, is := impl.Put(d, 0, ""); is || !isZeroDisk(more) {
		t.Fatal("one late write more than MaxLate")
	}
	for s := range 64 {
		last := s + 128
		if s < 8 {
			last = s + 192
		}
		if got := impl.See(d, int64(s)); got != aText(byte(last), last) {
			t.Fatalf("sector %d is seen as %q, not as late write %d", s, got, last)
		}
	}
	held := impl.Hold(d)
	if _, is := impl.Put(held, 0, ""); !is {
		t.Fatal("a held disk has room again")
	}
}

func TestHoldDoesInOrder(t *testing.T) {
	d := lateDisk(t, impl.NewDisk(),
		impl.Write{Sector: 5, Text: "first"}, impl.Write{Sector: 63, Text: "end"}, impl.Write{Sector: 5, Text: "2"},
		impl.Write{Sector: 0, Text: "gone"}, impl.Write{Sector: 0, Text: ""}, impl.Write{Sector: 9, Text: ""}, impl.Write{Sector: 9, Text: "back"})
	wantSectors(t, impl.Hold(d), map[int64]string{5: "2", 63: "end", 9: "back"})
	wantSectors(t, impl.Hold(impl.Hold(d)), map[int64]string{5: "2", 63: "end", 9: "back"})
	if !sameDisk(impl.Hold(fullDisk()), fullDisk()) {
		t.Fatal("nothing late, and another disk")
	}
}

func TestSeeTellsTheLateAhead(t *testing.T) {
	d := impl.NewDisk()
	d.Sectors[5], d.Sectors[6], d.Sectors[63] = "held", "old", "last"
	d = lateDisk(t, d, impl.Write{Sector: 6, Text: "a"}, impl.Write{Sector: 0, Text: "nought"}, impl.Write{Sector: 6, Text: "bb"}, impl.Write{Sector: 63, Text: ""})
	for sector, want := range map[int64]string{-1: "", 0: "nought", 1: "", 5: "held", 6: "bb", 63: "", 64: ""} {
		if got := impl.See(d, sector); got != want {
			t.Errorf("sector %d is seen as %q, not %q", sector, got, want)
		}
	}
	if d.Sectors[6] != "old" || d.Sectors[0] != "" {
		t.Fatal("a late write is held already")
	}
}

func TestSeeOfNoSector(t *testing.T) {
	d := fullDisk()
	d.Late = []impl.Write{{Sector: 0, Text: "low"}, {Sector: 63, Text: "high"}, {Sector: 5, Text: "five"}}
	for _, sector := range append([]int64{64, 65, 128}, farNumbers...) {
		if got := impl.See(d, sector); got != "" {
			t.Errorf("sector %d is seen as %q", sector, got)
		}
	}
}

func TestCrashByLands(t *testing.T) {
	d := impl.NewDisk()
	d.Sectors[5], d.Sectors[6] = "held", "old"
	d = lateDisk(t, d, impl.Write{Sector: 5, Text: "a"}, impl.Write{Sector: 6, Text: "b"}, impl.Write{Sector: 5, Text: "c"})
	cases := []struct {
		lands []bool
		five  string
		six   string
	}{
		{nil, "held", "old"},
		{[]bool{}, "held", "old"},
		{[]bool{true}, "a", "old"},
		{[]bool{false}, "held", "old"},
		{[]bool{false, true}, "held", "b"},
		{[]bool{true, true}, "a", "b"},
		{[]bool{false, false, false}, "held", "old"},
		{[]bool{false, false, true}, "c", "old"},
		{[]bool{true, false, true}, "c", "old"},
		{[]bool{true, true, true}, "c", "b"},
		{[]bool{true, true, false, true, true}, "a", "b"},
		{[]bool{false, false, false, true, true}, "held", "old"},
		{allTrue(1000), "c", "b"},
	}
	for _, c := range cases {
		for _, torn := range append([]int64{3, 4, 64, 200}, farNumbers...) {
			wantSectors(t, impl.Crash(d, c.lands, torn), map[int64]string{5: c.five, 6: c.six})
		}
	}
}

func TestCrashTears(t *testing.T) {
	cases := []struct{ had, late, want string }{
		{"123456", "abcd", "ab3456"},
		{"123456", "abcde", "ab3456"},
		{"123456", "abcdefg", "abc456"},
		{"123456", "a", "123456"},
		{"123456", "ab", "a23456"},
		{"123456", "abc", "a23456"},
		{"123456", "", "123456"},
		{"", "", ""},
		{"", "a", ""},
		{"", "abcde", "ab"},
		{"1", "abcde", "ab"},
		{"12", "abcde", "ab"},
		{"123", "abcde", "ab3"},
		{"12", "abcdefghi", "abcd"},
		{"\xff\x00\xfe", "\u00e9\u00e9", "\u00e9\xfe"},
		{"123", "\u20ac", "\xe223"},
		{aText('h', 256), aText('w', 256), aText('w', 256)[:128] + aText('h', 256)[128:]},
		{aText('h', 256), aText('w', 255), aText('w', 255)[:127] + aText('h', 256)[127:]},
		{aText('h', 127), aText('w', 256), aText('w', 256)[:128]},
		{aText('h', 128), aText('w', 256), aText('w', 256)[:128]},
		{aText('h', 129), aText('w', 256), aText('w', 256)[:128] + aText('h', 129)[128:]},
	}
	for _, c := range cases {
		d := impl.NewDisk()
		d.Sectors[63] = c.had
		d = lateDisk(t, d, impl.Write{Sector: 63, Text: c.late})
		for _, lands := range [][]bool{nil, {false}, {true}, {false, true}, {true, false}} {
			torn := impl.Crash(d, lands, 0)
			wantSectors(t, torn, map[int64]string{63: c.want})
			if !impl.DiskOk(torn) {
				t.Fatalf("%q over %q is not DiskOk", c.late, c.had)
			}
		}
	}
}

func TestCrashTearsInOrder(t *testing.T) {
	d := impl.NewDisk()
	d.Sectors[5] = "123456"
	d = lateDisk(t, d, impl.Write{Sector: 5, Text: "ABCDEFGH"}, impl.Write{Sector: 5, Text: "wxyz"}, impl.Write{Sector: 5, Text: "!"})
	cases := []struct {
		lands []bool
		torn  int64
		want  string
	}{
		{nil, 0, "ABCD56"},
		{nil, 1, "wx3456"},
		{nil, 2, "123456"},
		{[]bool{true}, 1, "wxCDEFGH"},
		{[]bool{false, true}, 0, "wxyz"},
		{[]bool{true, true}, 2, "wxyz"},
		{[]bool{true, true, true}, 0, "!"},
		{[]bool{true, false, true}, 1, "!"},
		{[]bool{true, true, true}, 3, "!"},
		{[]bool{true, true, false}, -1, "wxyz"},
	}
	for _, c := range cases {
		wantSectors(t, impl.Crash(d, c.lands, c.torn), map[int64]string{5: c.want})
	}
}
