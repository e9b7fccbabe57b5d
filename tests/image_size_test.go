package tests

import (
	"slices"
	"testing"

	"loop.example/g00140/impl"
)

// wantLengths fails unless the machine's pages have so many bytes each.
func wantLengths(t *testing.T, v impl.Vm, lengths ...int) {
	t.Helper()
	var got []int
	for _, body := range mustFreeze(t, v) {
		got = append(got, len(body))
	}
	if !slices.Equal(got, lengths) {
		t.Errorf("%d bytes: the pages have %v bytes, not %v", len(modelText(v)), got, lengths)
	}
}

// TestPagesAtBodySize has texts of just BodySize bytes, of one less and of one more, and of some pages more.
func TestPagesAtBodySize(t *testing.T) {
	for _, c := range []struct {
		bytes   int
		lengths []int
	}{
		{199, []int{199}}, {200, []int{200}}, {201, []int{200, 1}}, {202, []int{200, 2}},
		{399, []int{200, 199}}, {400, []int{200, 200}}, {401, []int{200, 200, 1}},
		{599, []int{200, 200, 199}}, {600, []int{200, 200, 200}}, {601, []int{200, 200, 200, 1}},
	} {
		v := sizedVm(t, 1, c.bytes)
		wantLengths(t, v, c.lengths...)
		wantFrozen(t, digits(int64(c.bytes))+" bytes", v, modelText(v))
	}
}

// TestPagesOfEachSize goes through two pages, byte by byte.
func TestPagesOfEachSize(t *testing.T) {
	for bytes := 130; bytes <= 450; bytes++ {
		v := sizedVm(t, 1, bytes)
		wantFrozen(t, digits(int64(bytes))+" bytes", v, modelText(v))
	}
}

// TestPagesAtMaxPages has just as many pages as there may be, and one byte more.
func TestPagesAtMaxPages(t *testing.T) {
	for _, bytes := range []int{5799, 5800, 5801, 5802, 5998, 5999, 6000} {
		v := sizedVm(t, 10, bytes)
		wantFrozen(t, digits(int64(bytes))+" bytes", v, modelText(v))
	}
	wantLengths(t, sizedVm(t, 10, 6000), slices.Repeat([]int{200}, 30)...)
	wantLengths(t, sizedVm(t, 10, 5999), append(slices.Repeat([]int{200}, 29), 199)...)
	wantLengths(t, sizedVm(t, 10, 5801), append(slices.Repeat([]int{200}, 29), 1)...)
	for _, bytes := range []int{6001, 6002, 6199, 6200, 6201, 7000} {
		v := sizedVm(t, 10, bytes)
		wantNotFrozen(t, digits(int64(bytes))+" bytes", v)
		bodies := inPieces(modelText(v))
		wantNotThawed(t, digits(int64(bytes))+" bytes", bodies, v.Program)
		wantNotThawed(t, digits(int64(bytes))+" bytes, 30 pages of them", bodies[:30], v.Program)
	}
}

// TestMaxPagesByOut is too large by what was printed, and by that alone.
func TestMaxPagesByOut(t *testing.T) {
	v := sizedVm(t, 10, 5700)
	kinds := map[string]int{}
	for count := range 301 {
		v.Out = slices.Repeat([]int64{-5}, count)
		kinds[holdsToFreeze(t, "Out of "+digits(int64(count)), v)]++
	}
	// Two digits more for how many there are, and three bytes for each.
	if kinds["thawed"] != 100 || kinds["not frozen"] != 201 {
		t.Errorf("%v", kinds)
	}
}

// TestLargestMachines are right, and more than all pages hold by far.
func TestLargestMachines(t *testing.T) {
	bothWays(func(flip bool, used int64, spare int64) {
		low := func(words int64, from int64) []thing {
			out := filled(words, from)
			for _, x := range out {
				for i := range x.fields {
					x.fields[i] = -2000000000
				}
			}
			return out
		}
		link := func(things []thing, at int64) []thing { return linkedThings(things, at) }
		old := slices.Concat(ownThings(5, nil, ref(58), ref(2000), ref(used)), link(low(1942, 100), 58))
		v := vmOf(laidHeap(flip, old, link(low(600, 10), 2000), link(low(300, 30), used)), 0, 44, program("dup")...)
		if reached := impl.Reached(v.Heap); reached != 2900 || !impl.VmOk(v) {
			t.Fatalf("%d words are reached: %s", reached, vmText(v))
		}
		v.Out = slices.Repeat([]int64{-1000000000}, 300)
		wantNotFrozen(t, "a full heap", v)
	})
}

// TestMachinesThatTheOldSpaceCannotHold are frozen, as they are right and have pages enough; but no heap is Build of their Shape.
func TestMachinesThatTheOldSpaceCannotHold(t *testing.T) {
	bothWays(func(flip bool, used int64, spare int64) {
		for chain, want := range map[int64]string{400: "thawed", 1300: "thawed", 1342: "thawed", 1343: "kept back", 1344: "kept back", 1600: "kept back", 1942: "kept back"} {
			v := linkedVm(flip, chain, []int64{num(8)}, "new 0")
			if got := holdsToFreeze(t, digits(658+chain)+" words", v); got != want {
				t.Errorf("%d words: %s", 658+chain, got)
			}
		}
	})
}
