package tests

import (
	"slices"
	"testing"

	"loop.example/g00140/impl"
)

// step is one Forward or one Exchange, and Kept as it must be then.
type step struct {
	name     string
	exchange bool
	a, b     int64
	kept     []int64
}

// wantSteps does one after the other, and holds every one against the model and against Kept as it is written down; it answers the last heap.
func wantSteps(t *testing.T, h impl.Heap, steps []step) impl.Heap {
	t.Helper()
	for _, s := range steps {
		want := holdsToBecomeModel(t, s.name, h, ref(s.a), ref(s.b))
		if !want.is {
			t.Fatalf("%s: it was refused", s.name)
		}
		h = want.forward
		if s.exchange {
			h = want.exchange
		}
		if !slices.Equal(h.Kept, s.kept) {
			t.Fatalf("%s: kept are %v, not %v", s.name, h.Kept, s.kept)
		}
	}
	return h
}

// holders has old objects at 0, 6 and 12 of two fields, each with these words, bare old ones at 18 and 22, and bare young ones at 2000 and 2004 and among the survivors.
func holders(flip bool, words ...int64) impl.Heap {
	old := []thing{aThing(1, 1, 0, words[0], words[1]), aThing(1, 2, 0, words[2], words[3]), aThing(1, 3, 0, words[4], words[5])}
	return ended(laidHeap(flip, append(old, bare(4, 5)...), bare(6, 7), bare(8, 9)))
}

// TestAnOldOneComesToReferToAYoungOne has an old one become a young one, of eden and of the survivors.
func TestAnOldOneComesToReferToAYoungOne(t *testing.T) {
	bothWays(func(flip bool, used int64, s int64) {
		for _, young := range []int64{2000, 2004, used, used + 4} {
			h := holders(flip, num(1), ref(18), ref(22), num(2), ref(18), ref(18))
			wantSteps(t, h, []step{{"forward", false, 18, young, []int64{0, 12}}})
			wantSteps(t, h, []step{{"forward of the other", false, 22, young, []int64{6}}})
			wantSteps(t, h, []step{{"forward of both", false, 18, young, []int64{0, 12}}, {"forward of both", false, 22, young, []int64{0, 6, 12}}})
			wantSteps(t, h, []step{{"exchange", true, 18, young, []int64{0, 12}}})
			wantSteps(t, h, []step{{"exchange, the other way", true, young, 18, []int64{0, 12}}})
			wantSteps(t, h, []step{{"forward of the young one, that none has", false, young, 18, nil}})
		}
	})
}

// TestAnOldOneNoLongerRefersToAYoungOne has a young one become an old one.
func TestAnOldOneNoLongerRefersToAYoungOne(t *testing.T) {
	bothWays(func(flip bool, used int64, s int64) {
		for _, young := range []int64{2000, 2004, used, used + 4} {
			h := holders(flip, ref(young), num(2), ref(18), num(3), ref(young), ref(young))
			if !slices.Equal(h.Kept, []int64{0, 12}) {
				t.Fatal(h.Kept)
			}
			wantSteps(t, h, []step{{"forward", false, young, 22, nil}})
			wantSteps(t, h, []step{{"exchange with one that none has", true, young, 22, nil}})
			wantSteps(t, h, []step{{"exchange with one that another has", true, young, 18, []int64{6}}, {"and back", true, young, 18, []int64{0, 12}}})
			wantSteps(t, h, []step{{"exchange, the other way", true, 18, young, []int64{6}}})
			wantSteps(t, h, []step{{"forward of the old one", false, 18, young, []int64{0, 6, 12}}, {"and of that one again", false, young, 18, nil}})
		}
	})
}

// TestAnotherYoungOneIsLeft has two young ones, of which one alone becomes an old one.
func TestAnotherYoungOneIsLeft(t *testing.T) {
	bothWays(func(flip bool, used int64, s int64) {
		h := holders(flip, ref(2000), ref(used), ref(used), ref(18), ref(2000), num(1))
		if !slices.Equal(h.Kept, []int64{0, 6, 12}) {
			t.Fatal(h.Kept)
		}
		wantSteps(t, h, []step{{"one of eden", false, 2000, 18, []int64{0, 6}}, {"the survivor", false, used, 18, nil}})
		wantSteps(t, h, []step{{"the survivor", false, used, 22, []int64{0, 12}}, {"one of eden", false, 2000, 22, nil}})
		wantSteps(t, h, []step{{"exchange of one of eden", true, 2000, 18, []int64{0, 6}}, {"exchange of the survivor", true, used, 18, []int64{0, 6, 12}}})
	})
}

// TestKeptStaysAmongAlikes has old ones with old ones, and young ones with young ones.
func TestKeptStaysAmongAlikes(t *testing.T) {
	bothWays(func(flip bool, used int64, s int64) {
		h := holders(flip, ref(2000), ref(18), ref(22), ref(0), ref(12), ref(used))
		kept := []int64{0, 12}
		for _, exchange := range []bool{false, true} {
			for _, pair := range [][2]int64{{18, 22}, {22, 18}, {0, 12}, {12, 0}, {6, 22}, {2000, 2004}, {2000, used}, {used, 2000}, {used, used + 4}, {2004, used + 4}, {0, 0}, {18, 18}, {2000, 2000}, {used, used}} {
				wantSteps(t, h, []step{{"alikes", exchange, pair[0], pair[1], kept}})
			}
		}
	})
}

// TestAKeptOneBecomesAnother has the holder itself as one of the two: it keeps its fields, and so it is kept still.
func TestAKeptOneBecomesAnother(t *testing.T) {
	bothWays(func(flip bool, used int64, s int64) {
		h := holders(flip, ref(2000), num(1), ref(0), num(1), ref(6), num(1))
		wantSteps(t, h, []step{
			{"the holder with an old one", true, 0, 18, []int64{0}},
			{"the holder with another one", true, 0, 6, []int64{0}},
			{"the holder with the one that it has", true, 0, 2000, []int64{12}},
			{"and back", true, 2000, 0, []int64{0}},
			{"the holder to the young one", false, 0, 2000, []int64{0, 12}},
			{"the young one to the holder", false, 2000, 0, nil},
		})
		// Each of these has itself.
		self := holders(flip, ref(0), num(1), ref(6), num(1), ref(12), num(1))
		wantSteps(t, self, []step{
			{"the first one with one of eden", true, 0, 2000, []int64{0}},
			{"the last one with a survivor", true, 12, used, []int64{0, 12}},
			{"the one between to the survivor", false, 6, used, []int64{0, 6, 12}},
			{"the survivor to the last one", false, used, 12, []int64{0}},
			{"the one of eden to the first one", false, 2000, 0, nil},
		})
	})
}

// TestYoungOnesAndRootsDoNotComeToKept has young ones and roots that come to refer to young ones.
func TestYoungOnesAndRootsDoNotComeToKept(t *testing.T) {
	bothWays(func(flip bool, used int64, s int64) {
		with := func(w int64) impl.Heap {
			one := func(hash int64) []thing { return []thing{aThing(1, hash, 0, w, w)} }
			return ended(laidHeap(flip, bare(1), one(2), one(3)), w, num(1), w)
		}
		for _, young := range []int64{2000, used} {
			h := wantForward(t, "forward", with(ref(0)), ref(0), ref(young), with(ref(young)))
			if len(h.Kept) != 0 {
				t.Error(h.Kept)
			}
			h = wantExchange(t, "exchange", with(ref(0)), ref(0), ref(young), with(ref(young)))
			if len(h.Kept) != 0 {
				t.Error(h.Kept)
			}
		}
	})
}

// TestAllOldOnesAreKept has 400 old objects, each of which has the old one behind it, or the young one.
func TestAllOldOnesAreKept(t *testing.T) {
	with := func(flip bool, words func(i int64) int64) impl.Heap {
		var old []thing
		for i := range int64(398) {
			old = append(old, aThing(0, i+1, 0, words(i)))
		}
		return ended(laidHeap(flip, append(old, bare(500, 501)...), bare(502), nil))
	}
	for _, flip := range []bool{false, true} {
		for _, every := range []int64{1, 2, 3, 50} {
			row := func(first int64, second int64) impl.Heap {
				return with(flip, func(i int64) int64 {
					if i%every == 0 {
						return first
					}
					return second
				})
			}
			a, b, young := ref(1990), ref(1994), ref(2000)
			h := wantForward(t, "every "+digits(every), row(a, b), a, young, row(young, b))
			if want := (398 + every - 1) / every; int64(len(h.Kept)) != want || !slices.IsSorted(h.Kept) {
				t.Errorf("every %d: %d are kept, not %d", every, len(h.Kept), want)
			}
			h = wantExchange(t, "every "+digits(every), row(young, a), a, young, row(a, young))
			if want := 398 - (398+every-1)/every; int64(len(h.Kept)) != want || !slices.IsSorted(h.Kept) {
				t.Errorf("every %d: %d are kept, not %d", every, len(h.Kept), want)
			}
			wantForward(t, "every "+digits(every), row(young, a), young, b, row(b, a))
		}
	}
}

// TestAScavengeFindsWhatBecameYoung has a young one that lives on only because an old one refers to it then.
func TestAScavengeFindsWhatBecameYoung(t *testing.T) {
	bothWays(func(flip bool, used int64, s int64) {
		h := ended(laidHeap(flip, append([]thing{aThing(1, 1, 0, ref(5))}, bare(2)...), bare(3), nil), ref(0))
		h, _ = impl.Exchange(h, ref(5), ref(2000))
		want := movedHeap(h, append([]thing{aThing(1, 1, 0, ref(s))}, bare(2)...), []thing{aThing(1, 3, 1)}, ref(0))
		wantMoved(t, "became young", h, want, 1, 0)
		back, _ := impl.Forward(h, ref(2000), ref(5))
		gone := movedHeap(h, append([]thing{aThing(1, 1, 0, ref(5))}, bare(2)...), nil, ref(0))
		wantMoved(t, "became old again", back, gone, 0, 0)
	})
}
