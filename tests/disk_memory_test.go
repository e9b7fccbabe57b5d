package tests

import (
	"slices"
	"testing"
	"unsafe"

	"loop.example/g00140/impl"
)

const spare = 9

// roomyDisk is d with spare room behind its lists, of which each place is marked.
func roomyDisk(d impl.Disk) impl.Disk {
	sectors := slices.Concat(d.Sectors, slices.Repeat([]string{"spare"}, spare))
	late := slices.Concat(d.Late, slices.Repeat([]impl.Write{{Sector: 77, Text: "spare"}}, spare))
	return impl.Disk{Sectors: sectors[:len(d.Sectors)], Late: late[:len(d.Late)]}
}

// wantUntouched fails unless d, and the spare room behind it, is as roomyDisk(was) was made.
func wantUntouched(t *testing.T, name string, d impl.Disk, was impl.Disk) {
	t.Helper()
	if !sameDisk(d, was) {
		t.Errorf("%s: an argument was changed", name)
	}
	for _, text := range d.Sectors[len(d.Sectors) : len(d.Sectors)+spare] {
		if text != "spare" {
			t.Errorf("%s: %q behind the sectors", name, text)
		}
	}
	for _, w := range d.Late[len(d.Late) : len(d.Late)+spare] {
		if w != (impl.Write{Sector: 77, Text: "spare"}) {
			t.Errorf("%s: %v behind the late writes", name, w)
		}
	}
}

// scribble writes over all that an answer has, and over its spare room.
func scribble(d impl.Disk) {
	sectors := d.Sectors[:cap(d.Sectors)]
	for i := range sectors {
		sectors[i] = "scribble"
	}
	late := d.Late[:cap(d.Late)]
	for i := range late {
		late[i] = impl.Write{Sector: 88, Text: "scribble"}
	}
}

type namedCall struct {
	name string
	call func(d impl.Disk) impl.Disk
}

func diskCalls() []namedCall {
	put := func(sector int64, text string) func(impl.Disk) impl.Disk {
		return func(d impl.Disk) impl.Disk {
			out, _ := impl.Put(d, sector, text)
			return out
		}
	}
	crash := func(lands []bool, torn int64) func(impl.Disk) impl.Disk {
		return func(d impl.Disk) impl.Disk { return impl.Crash(d, lands, torn) }
	}
	return []namedCall{
		{"DiskOk", func(d impl.Disk) impl.Disk { impl.DiskOk(d); return impl.Disk{} }},
		{"See", func(d impl.Disk) impl.Disk { impl.See(d, 5); return impl.Disk{} }},
		{"NewDisk", func(impl.Disk) impl.Disk { return impl.NewDisk() }},
		{"Put", put(5, "more")},
		{"Put to no sector", put(64, "more")},
		{"Hold", impl.Hold},
		{"Crash of all", crash(allTrue(300), -1)},
		{"Crash of none", crash(nil, -1)},
		{"Crash, torn", crash([]bool{true, true}, 1)},
	}
}

func memoryDisks() []namedDisk {
	n := numbers(5)
	out := []namedDisk{{"new", impl.NewDisk()}, {"full", fullDisk()}, {"three late", drawnDisk(&n, 3)}, {"199 late", drawnDisk(&n, 199)}, {"200 late", drawnDisk(&n, 200)}}
	return append(out, wrongDisks()...)
}

func TestArgumentsAndTheirSpareRoomStay(t *testing.T) {
	for _, c := range memoryDisks() {
		for _, f := range diskCalls() {
			d := roomyDisk(c.disk)
			out := f.call(d)
			wantUntouched(t, f.name+", "+c.name, d, c.disk)
			scribble(out)
			wantUntouched(t, f.name+", scribbled, "+c.name, d, c.disk)
		}
	}
}

func TestAnswersStayWhenArgumentsChange(t *testing.T) {
	for _, c := range memoryDisks() {
		for _, f := range diskCalls() {
			d := roomyDisk(c.disk)
			out, want := f.call(d), f.call(roomyDisk(c.disk))
			scribble(d)
			if !sameDisk(out, want) {
				t.Errorf("%s, %s: the answer changed with the argument", f.name, c.name)
			}
		}
	}
}

func TestTwoAnswersShareNothing(t *testing.T) {
	for _, c := range memoryDisks() {
		for _, f := range diskCalls() {
			d := roomyDisk(c.disk)
			first, second, want := f.call(d), f.call(d), f.call(d)
			scribble(first)
			if !sameDisk(second, want) {
				t.Errorf("%s, %s: two answers share memory", f.name, c.name)
			}
		}
	}
}

func TestLandsStay(t *testing.T) {
	d := lateDisk(t, fullDisk(), impl.Write{Sector: 5, Text: "abcd"}, impl.Write{Sector: 5, Text: "ef"}, impl.Write{Sector: 9, Text: "g"})
	for bits := range 1 << 8 {
		was := bitsOf(bits, 8)
		for long := range 9 {
			for torn := int64(-1); torn < 5; torn++ {
				lands := slices.Clone(was)
				impl.Crash(d, lands[:long], torn)
				if !slices.Equal(lands, was) {
					t.Fatalf("lands %v became %v", was, lands)
				}
			}
		}
	}
}

// textsOf are all texts of a disk that have a byte.
func textsOf(d impl.Disk) []string {
	out := slices.Clone(d.Sectors)
	for _, w := range d.Late {
		out = append(out, w.Text)
	}
	return slices.DeleteFunc(out, func(text string) bool { return text == "" })
}

// sharesBytes says whether two texts have a byte of memory in common.
func sharesBytes(a string, b string) bool {
	x, y := uintptr(unsafe.Pointer(unsafe.StringData(a))), uintptr(unsafe.Pointer(unsafe.StringData(b)))
	return x < y+uintptr(len(b)) && y < x+uintptr(len(a))
}

func TestTextsOfAnswersAreNewMemory(t *testing.T) {
	d := impl.NewDisk()
	d.Sectors[5], d.Sectors[6] = aText('a', 40), aText('b', 256)
	d.Late = []impl.Write{{Sector: 6, Text: aText('c', 51)}, {Sector: 7, Text: aText('d', 33)}}
	more := aText('e', 60)
	put, _ := impl.Put(d, 8, more)
	answers := slices.Concat(textsOf(put), textsOf(impl.Hold(d)), textsOf(impl.Crash(d, allTrue(2), 0)), []string{impl.See(d, 5), impl.See(d, 7)})
	for _, answer := range answers {
		for _, given := range append(textsOf(d), more) {
			if sharesBytes(answer, given) {
				t.Errorf("%q shares memory with an argument", answer)
			}
		}
	}
}
