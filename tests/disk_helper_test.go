package tests

import (
	"math"
	"slices"
	"strconv"
	"strings"
	"testing"

	"loop.example/g00140/impl"
)

// farNumbers are sectors, or numbers of writes, that no disk has.
var farNumbers = []int64{math.MinInt64, math.MinInt64 + 1, -1 << 32, -65, -64, -2, -1, 1 << 31, 1 << 32, 1<<32 + 5, math.MaxInt64 - 1, math.MaxInt64}

// aText has a length of n bytes, and differs from that of another mark at each of them.
func aText(mark byte, n int) string {
	b := make([]byte, n)
	for i := range b {
		b[i] = mark + byte(i%7)*31
	}
	return string(b)
}

// fullDisk has a text of its own in each sector, of lengths from 0 to SectorSize.
func fullDisk() impl.Disk {
	d := impl.NewDisk()
	for i := range d.Sectors {
		d.Sectors[i] = aText(byte(i), i*256/63)
	}
	return d
}

// lateDisk is a disk with these late writes.
func lateDisk(t *testing.T, d impl.Disk, writes ...impl.Write) impl.Disk {
	t.Helper()
	for i, w := range writes {
		next, is := impl.Put(d, w.Sector, w.Text)
		if !is {
			t.Fatalf("write %d to sector %d was refused", i, w.Sector)
		}
		d = next
	}
	return d
}

// sameDisk holds every sector and every late write against each other.
func sameDisk(a impl.Disk, b impl.Disk) bool {
	return slices.Equal(a.Sectors, b.Sectors) && slices.Equal(a.Late, b.Late)
}

func isZeroDisk(d impl.Disk) bool {
	return len(d.Sectors) == 0 && len(d.Late) == 0
}

// wantSectors fails unless d has these texts, empty ones elsewhere, and nothing late.
func wantSectors(t *testing.T, d impl.Disk, want map[int64]string) {
	t.Helper()
	if len(d.Sectors) != 64 || len(d.Late) != 0 {
		t.Fatalf("%d sectors, %d late writes", len(d.Sectors), len(d.Late))
	}
	for i, text := range d.Sectors {
		if text != want[int64(i)] {
			t.Fatalf("sector %d is %q, not %q", i, text, want[int64(i)])
		}
	}
}

// modelCrash says the chapter again, byte by byte.
func modelCrash(d impl.Disk, lands []bool, torn int64) impl.Disk {
	sectors := append([]string{}, d.Sectors...)
	for i := 0; i < len(d.Late); i++ {
		w := d.Late[i]
		lies := i < len(lands) && lands[i]
		switch {
		case int64(i) == torn:
			had := sectors[w.Sector]
			var b strings.Builder
			for k := 0; k < len(w.Text)/2; k++ {
				b.WriteByte(w.Text[k])
			}
			for k := len(w.Text) / 2; k < len(had); k++ {
				b.WriteByte(had[k])
			}
			sectors[w.Sector] = b.String()
		case lies:
			sectors[w.Sector] = w.Text
		}
	}
	return impl.Disk{Sectors: sectors}
}

func allTrue(n int) []bool {
	return slices.Repeat([]bool{true}, n)
}

// bitsOf are the n low bits of x.
func bitsOf(x int, n int) []bool {
	out := make([]bool, n)
	for i := range out {
		out[i] = x>>i&1 == 1
	}
	return out
}

// numbers goes on by a fixed rule, so that a failing test fails again.
type numbers uint64

func (n *numbers) below(top int) int {
	*n = *n*6364136223846793005 + 1442695040888963407
	return int(uint64(*n>>33) % uint64(top))
}

// drawnDisk has sectors and late writes that the numbers pick; few sectors, so
// that writes meet each other there.
func drawnDisk(n *numbers, late int) impl.Disk {
	d := impl.NewDisk()
	for i := range d.Sectors {
		d.Sectors[i] = aText(byte(n.below(256)), n.below(257))
	}
	for range late {
		sector := int64([]int{0, 1, 31, 62, 63}[n.below(5)])
		d.Late = append(d.Late, impl.Write{Sector: sector, Text: aText(byte(n.below(256)), n.below(257))})
	}
	return d
}

func drawnLands(n *numbers, late int) []bool {
	lands := make([]bool, n.below(late+4))
	for i := range lands {
		lands[i] = n.below(2) == 1
	}
	return lands
}

type namedDisk struct {
	name string
	disk impl.Disk
}

// wrongDisks are disks that are not DiskOk, each by one thing.
func wrongDisks() []namedDisk {
	long := aText('x', 257)
	sized := func(n int) impl.Disk { return impl.Disk{Sectors: make([]string, n)} }
	late := func(writes ...impl.Write) impl.Disk {
		d := fullDisk()
		d.Late = writes
		return d
	}
	out := []namedDisk{
		{"the zero Disk", impl.Disk{}},
		{"no sectors, but a late write", impl.Disk{Late: []impl.Write{{Sector: 0, Text: "a"}}}},
		{"1 sector", sized(1)},
		{"63 sectors", sized(63)},
		{"65 sectors", sized(65)},
		{"128 sectors", sized(128)},
		{"201 late writes", late(make([]impl.Write, 201)...)},
		{"400 late writes", late(make([]impl.Write, 400)...)},
		{"a late text of 257 bytes", late(impl.Write{Sector: 5, Text: long})},
		{"a last late text of 257 bytes", late(impl.Write{Sector: 5, Text: "a"}, impl.Write{Sector: 6, Text: long})},
		{"a late text of 129 runes, 257 bytes", late(impl.Write{Sector: 5, Text: strings.Repeat("\u00e9", 128) + "e"})},
	}
	for _, sector := range []int{0, 1, 62, 63} {
		d := fullDisk()
		d.Sectors[sector] = long
		out = append(out, namedDisk{"257 bytes in sector " + strconv.Itoa(sector), d})
	}
	for _, sector := range append([]int64{64, 65, 256}, farNumbers...) {
		name := strconv.FormatInt(sector, 10)
		out = append(out, namedDisk{"a late write to sector " + name, late(impl.Write{Sector: sector, Text: "a"})})
		out = append(out, namedDisk{"a last late write to sector " + name, late(impl.Write{Sector: 3}, impl.Write{Sector: sector})})
	}
	return out
}
