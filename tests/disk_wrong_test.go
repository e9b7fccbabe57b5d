package tests

import (
	"testing"

	"loop.example/g00140/impl"
)

// noPanic makes a panic a failure of the test that names what was asked.
func noPanic(t *testing.T, name string) {
	if p := recover(); p != nil {
		t.Errorf("%s: panic: %v", name, p)
	}
}

func TestWrongDisksHaveFixedAnswers(t *testing.T) {
	for _, c := range wrongDisks() {
		refusedByAll(t, c.name, c.disk)
	}
}

func refusedByAll(t *testing.T, name string, d impl.Disk) {
	defer noPanic(t, name)
	if impl.DiskOk(d) {
		t.Errorf("%s: DiskOk", name)
	}
	if !isZeroDisk(impl.Hold(d)) {
		t.Errorf("%s: Hold is not the zero Disk", name)
	}
	for _, at := range append([]int64{0, 1, 3, 5, 62, 63, 64}, farNumbers...) {
		if put, is := impl.Put(d, at, "a"); is || !isZeroDisk(put) {
			t.Errorf("%s: Put to %d", name, at)
		}
		if text := impl.See(d, at); text != "" {
			t.Errorf("%s: sector %d is seen as %q", name, at, text)
		}
		for _, lands := range [][]bool{nil, {true}, allTrue(500)} {
			if !isZeroDisk(impl.Crash(d, lands, at)) {
				t.Errorf("%s: Crash with torn %d is not the zero Disk", name, at)
			}
		}
	}
}

func TestRightDisksNeverPanic(t *testing.T) {
	n := numbers(11)
	for _, d := range []impl.Disk{impl.NewDisk(), fullDisk(), drawnDisk(&n, 1), drawnDisk(&n, 200)} {
		for _, at := range append([]int64{0, 63, 64, 199, 200}, farNumbers...) {
			answersAt(t, d, at)
		}
	}
}

func answersAt(t *testing.T, d impl.Disk, at int64) {
	defer noPanic(t, "a right disk")
	for _, text := range []string{"", "a", aText('a', 256), aText('a', 257)} {
		impl.Put(d, at, text)
	}
	impl.See(d, at)
	for _, lands := range [][]bool{nil, {}, {true}, allTrue(200), allTrue(201)} {
		if !impl.DiskOk(impl.Crash(d, lands, at)) {
			t.Errorf("Crash with torn %d is not DiskOk", at)
		}
	}
}
