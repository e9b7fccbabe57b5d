package tests

import (
	"testing"

	"loop.example/g00140/impl"
)

// heldAndSeen fails unless promise 1 holds of d, whatever it has.
func heldAndSeen(t *testing.T, d impl.Disk) {
	t.Helper()
	held := impl.Hold(d)
	if !impl.DiskOk(d) || !impl.DiskOk(held) || len(held.Late) != 0 {
		t.Fatal("it is not DiskOk, or something is late still")
	}
	for s := range int64(64) {
		if impl.See(d, s) != held.Sectors[s] || impl.See(held, s) != held.Sectors[s] {
			t.Fatalf("sector %d is seen as %q, and held as %q", s, impl.See(d, s), held.Sectors[s])
		}
	}
	if !sameDisk(impl.Crash(d, allTrue(len(d.Late)), -1), held) {
		t.Fatal("a crash of which all lands is no hold")
	}
	if !sameDisk(held, modelCrash(d, allTrue(len(d.Late)), -1)) {
		t.Fatal("held otherwise than in order")
	}
	before := impl.Disk{Sectors: d.Sectors}
	for _, lands := range [][]bool{nil, make([]bool, len(d.Late)), make([]bool, len(d.Late)+9)} {
		if !sameDisk(impl.Crash(d, lands, -1), before) {
			t.Fatal("a crash of which nothing lands is not what was held")
		}
	}
}

func TestHeldIsSeenAndCrashesAreHolds(t *testing.T) {
	heldAndSeen(t, impl.NewDisk())
	heldAndSeen(t, fullDisk())
	n := numbers(1)
	for _, late := range []int{0, 1, 2, 3, 5, 8, 13, 50, 199, 200} {
		for range 10 {
			heldAndSeen(t, drawnDisk(&n, late))
		}
	}
}

func TestEveryCrashOfFourLateWrites(t *testing.T) {
	d := impl.NewDisk()
	d.Sectors[2], d.Sectors[63] = "123456789", "xy"
	d = lateDisk(t, d, impl.Write{Sector: 2, Text: "abcdefg"}, impl.Write{Sector: 63, Text: "PQRSTUV"}, impl.Write{Sector: 2, Text: "ABC"}, impl.Write{Sector: 63, Text: "!"})
	for long := range 7 {
		for bits := range 1 << long {
			lands := bitsOf(bits, long)
			for torn := int64(-2); torn < 7; torn++ {
				if got, want := impl.Crash(d, lands, torn), modelCrash(d, lands, torn); !sameDisk(got, want) {
					t.Fatalf("lands %v, torn %d: %q and %q, not %q and %q", lands, torn, got.Sectors[2], got.Sectors[63], want.Sectors[2], want.Sectors[63])
				}
			}
		}
	}
}

func TestDrawnCrashes(t *testing.T) {
	n := numbers(7)
	for range 600 {
		late := n.below(12)
		if n.below(50) == 0 {
			late = 200
		}
		d := drawnDisk(&n, late)
		lands := drawnLands(&n, late)
		torn := int64(n.below(late+4) - 2)
		got := impl.Crash(d, lands, torn)
		if !sameDisk(got, modelCrash(d, lands, torn)) || !impl.DiskOk(got) {
			t.Fatalf("late %v, lands %v, torn %d", d.Late, lands, torn)
		}
	}
}

func TestCrashOfTwoHundred(t *testing.T) {
	n := numbers(3)
	d := drawnDisk(&n, 200)
	for torn := int64(-1); torn <= 201; torn++ {
		for _, lands := range [][]bool{nil, allTrue(199), allTrue(200), allTrue(300), drawnLands(&n, 200)} {
			if !sameDisk(impl.Crash(d, lands, torn), modelCrash(d, lands, torn)) {
				t.Fatalf("lands %d, torn %d", len(lands), torn)
			}
		}
	}
}
