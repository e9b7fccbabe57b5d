package tests

import (
	"slices"
	"testing"

	"loop.example/g00140/impl"
)

// TestBecomeInBareNumbers has each word that is another one written down.
func TestBecomeInBareNumbers(t *testing.T) {
	for _, flip := range []bool{false, true} {
		h := midHeap(flip)
		root := h.Roots[3]

		want := midHeap(flip)
		want.Words[16], want.Roots, want.Kept = 4001, []int64{4001, 2000000000, 4001, root, 0}, []int64{0, 10, 17}
		wantForward(t, "the one at 10 to the one at 2000", h, 21, 4001, want)

		want = midHeap(flip)
		want.Words[4], want.Roots, want.Kept = 21, []int64{21, 2000000000, 21, root, 0}, []int64{17}
		wantForward(t, "the one at 2000 to the one at 10", h, 4001, 21, want)

		want = midHeap(flip)
		want.Words[4], want.Words[16], want.Roots, want.Kept = 21, 4001, []int64{4001, 2000000000, 21, root, 0}, []int64{10, 17}
		wantExchange(t, "the ones at 10 and 2000", h, 21, 4001, want)
		wantExchange(t, "the ones at 2000 and 10", h, 4001, 21, want)

		// 1 is a size, a class, a hash and an age besides.
		want = midHeap(flip)
		want.Words[2004] = 13
		wantForward(t, "the one at 0 to the one at 6", h, 1, 13, want)
		want.Words[14] = 1
		wantExchange(t, "the ones at 0 and 6", h, 1, 13, want)

		wantReferrers(t, "the one at 0", h, 1, 2000)
		wantReferrers(t, "the one at 6", h, 13, 10)
		wantReferrers(t, "the one at 10", h, 21, 10)
		wantReferrers(t, "the one at 2000", h, 4001, 0)
		wantReferrers(t, "a survivor that is a root alone", h, root)
	}
}

// TestBecomeOfNewObjects has heaps of New, with every number written out.
func TestBecomeOfNewObjects(t *testing.T) {
	h, a, _ := impl.New(impl.NewHeap(), 3, 1)
	h, b, _ := impl.New(h, 4, 1)
	h, _ = impl.Set(h, a, 0, b)
	h, _ = impl.AddRoot(h, a)
	want := impl.Heap{Words: make([]int64, 3200), Eden: 2010, Surv: 2600, Hash: 3}
	copy(want.Words[2000:], []int64{1, 3, 1, 0, 4001, 1, 4, 2, 0, 0})
	want.Roots = []int64{4011}
	wantExchange(t, "both", h, 4001, 4011, want)
	want.Roots = []int64{4001}
	wantForward(t, "the second to the first", h, 4011, 4001, want)
	want.Words[2004], want.Roots = 4011, []int64{4011}
	wantForward(t, "the first to the second", h, 4001, 4011, want)
}

// TestEachChoiceOfPlaces has two objects in each choice of spaces, and one with itself, and words of either in each choice of fields and roots, in none and in all.
func TestEachChoiceOfPlaces(t *testing.T) {
	bothWays(func(flip bool, used int64, s int64) {
		starts := []int64{0, 2000, used}
		for i, x := range starts {
			for k, y := range starts {
				for choice := range 256 {
					a, b := ref(x), ref(y+7)
					name := "choice " + digits(int64(choice)) + " of spaces " + digits(int64(i)) + " and " + digits(int64(k))
					h := sown(flip, choice, a, b)
					wantForward(t, name, h, a, b, sown(flip, choice, b, b))
					wantExchange(t, name, h, a, b, sown(flip, choice, b, a))
				}
			}
		}
		for _, at := range []int64{0, 7, 14, 2000, 2007, 2014, used, used + 7, used + 14} {
			for choice := range 256 {
				h := sown(flip, choice, ref(at), ref(0))
				wantForward(t, "itself", h, ref(at), ref(at), h)
				wantExchange(t, "itself", h, ref(at), ref(at), h)
			}
		}
	})
}

// TestEachPairOfObjects has objects in all spaces that refer to each other across them.
func TestEachPairOfObjects(t *testing.T) {
	for _, flip := range []bool{false, true} {
		for _, x := range midObjects(flip) {
			for _, y := range midObjects(flip) {
				holdsToBecomeModel(t, "mid heap", midHeap(flip), ref(x), ref(y))
			}
		}
	}
}

// TestBecomeOfOnesThatReferToThemselves has them in each space, alone and with another one.
func TestBecomeOfOnesThatReferToThemselves(t *testing.T) {
	bothWays(func(flip bool, used int64, s int64) {
		for _, at := range []int64{0, 2000, used} {
			// The first one of the space has the word first in its field, the second one second.
			pair := func(first int64, second int64, roots ...int64) impl.Heap {
				row := func(from int64) []thing {
					if from != at {
						return nil
					}
					return []thing{aThing(1, 1, 0, first), aThing(2, 2, 0, second)}
				}
				return ended(laidHeap(flip, row(0), row(2000), row(used)), roots...)
			}
			a, b := ref(at), ref(at+5)
			itself := pair(a, b, a)
			wantForward(t, "each has itself", itself, a, b, pair(b, b, b))
			wantForward(t, "each has itself, the other way", itself, b, a, pair(a, a, a))
			wantExchange(t, "each has itself", itself, a, b, pair(b, a, b))
			wantReferrers(t, "each has itself", itself, a, at)

			other := pair(b, a, b, a)
			wantForward(t, "each has the other", other, a, b, pair(b, b, b, b))
			wantForward(t, "each has the other, the other way", other, b, a, pair(a, a, a, a))
			wantExchange(t, "each has the other", other, a, b, pair(a, b, a, b))
			wantReferrers(t, "each has the other", other, a, at+5)

			alone := pair(a, num(5))
			wantForward(t, "one has itself", alone, a, b, pair(b, num(5)))
			wantExchange(t, "one has itself", alone, a, b, pair(b, num(5)))
			wantForward(t, "one has itself, to itself", alone, a, a, alone)
			wantExchange(t, "one has itself, with itself", alone, a, a, alone)
			wantForward(t, "one has itself, and no other has the other", alone, b, a, alone)
		}
	})
}

// TestEveryFieldAndRootBecomes has each place of an object of 60 fields and of 20 roots as the only one that is changed, and then all of them.
func TestEveryFieldAndRootBecomes(t *testing.T) {
	for _, flip := range []bool{false, true} {
		large := rooted(largeHeap(flip), slices.Repeat([]int64{num(3)}, 20)...)
		ends := largeOnes(flip)
		a, b := ref(ends[0]), ref(ends[5])
		for _, at := range ends {
			for i := range int64(60) {
				with := func(w int64) impl.Heap {
					h := cloneHeap(large)
					h.Words[at+4+i] = w
					return ended(h, large.Roots...)
				}
				name := "field " + digits(i) + " at " + digits(at)
				wantForward(t, name, with(a), a, b, with(b))
				wantExchange(t, name, with(b), a, b, with(a))
			}
		}
		for i := range 20 {
			with := func(w int64) impl.Heap {
				h := cloneHeap(large)
				h.Roots[i] = w
				return h
			}
			wantForward(t, "root "+digits(int64(i)), with(a), a, b, with(b))
			wantExchange(t, "root "+digits(int64(i)), with(b), a, b, with(a))
		}
		all := func(w int64) impl.Heap {
			h := cloneHeap(large)
			_, fields := thingsOf(h)
			for _, place := range slices.Concat(fields...) {
				h.Words[place] = w
			}
			return ended(h, slices.Repeat([]int64{w}, 20)...)
		}
		wantForward(t, "all", all(a), a, b, all(b))
		wantForward(t, "all are the other one already", all(b), a, b, all(b))
		wantExchange(t, "all", all(a), a, b, all(b))
	}
}

// TestNumbersThatLookAlikeStay has numbers whose words lie next to those of the two, which are their addresses or their words, and those below 0.
func TestNumbersThatLookAlikeStay(t *testing.T) {
	bothWays(func(flip bool, used int64, s int64) {
		for _, pair := range [][2]int64{{0, 4}, {4, 2000}, {2000, used}, {used, 0}, {used, used + 4}, {2004, 2000}} {
			a, b := ref(pair[0]), ref(pair[1])
			numbers := []int64{a - 1, a + 1, b - 1, b + 1, num(pair[0]), num(pair[1]), num(a), num(b), -num(a), -num(b), -(a + 1), -(b + 1), 0, 2000000000, -2000000000}
			with := func(first int64, second int64) impl.Heap {
				fields := slices.Concat([]int64{first}, numbers, []int64{second})
				old := append(bare(1, 2), aThing(1, 3, 0, fields...))
				eden := append(bare(4, 5), aThing(1, 6, 0, fields...))
				surv := append(bare(7, 8), aThing(1, 9, 0, fields...))
				return ended(laidHeap(flip, old, eden, surv), fields...)
			}
			wantForward(t, "numbers", with(a, b), a, b, with(b, b))
			wantExchange(t, "numbers", with(a, b), a, b, with(b, a))
			wantForward(t, "numbers alone", with(0, 0), a, b, with(0, 0))
			wantExchange(t, "numbers alone", with(0, 0), a, b, with(0, 0))
			wantReferrers(t, "numbers alone", with(0, 0), a)
		}
	})
}

// TestHeadersThatLookAlikeStay has sizes, classes, hashes, ages, ends, Hash and kept addresses that are the same as the words.
func TestHeadersThatLookAlikeStay(t *testing.T) {
	// The words of those at 0, 4, 9, 2000 and 2600 are 1, 9, 19, 4001 and 5201.
	with := func(first int64, second int64) impl.Heap {
		fields := []int64{first, second, 0, 0, 0, 0, 0, 0, first}
		old := []thing{aThing(9, 1, 1), aThing(1, 4001, 9, second), aThing(19, 9, 9, fields...), aThing(1, 19, 1, first)}
		h := ended(laidHeap(false, old, []thing{aThing(9, 4003, 1, fields...)}, []thing{aThing(1, 4027, 9, first)}), first, second)
		h.Hash = 5201
		return h
	}
	for _, a := range []int64{1, 9, 19, 4001, 5201} {
		for _, b := range []int64{1, 9, 19, 4001, 5201} {
			if a == b {
				continue
			}
			wantForward(t, "headers", with(a, b), a, b, with(b, b))
			wantExchange(t, "headers", with(a, b), a, b, with(b, a))
		}
	}
	// The kept one lies at 15, which is the word of the one at 7.
	kept := func(first int64, second int64) impl.Heap {
		old := []thing{aThing(1, 1, 0, first, 0, 0), aThing(1, 2, 0, 0, 0, 0, second), aThing(1, 3, 0, ref(2000), second, first)}
		return ended(laidHeap(true, old, bare(4), nil), first)
	}
	if h := kept(15, 1); !slices.Equal(h.Kept, []int64{15}) || !impl.HeapOk(h) {
		t.Fatal(h.Kept)
	}
	wantForward(t, "kept at 15", kept(15, 1), 15, 1, kept(1, 1))
	wantExchange(t, "kept at 15", kept(15, 1), 15, 1, kept(1, 15))
}

// TestBecomeWhereNoneIsMeant has two objects that no word means: all stays.
func TestBecomeWhereNoneIsMeant(t *testing.T) {
	for _, c := range slices.Concat(placedHeaps(), []namedHeap{{"full eden", edenLeft(0)}, {"large ones", largeHeap(true)}, {"all is full", laidHeap(true, filled(2000, 1), filled(600, 100), filled(300, 200))}}) {
		h := c.heap
		objects, fields := thingsOf(h)
		for _, place := range slices.Concat(fields...) {
			h.Words[place] = num(place)
		}
		h = ended(h, num(1), num(2))
		for i, at := range objects {
			other := objects[(i+1)%len(objects)]
			wantForward(t, c.name, h, ref(at), ref(other), h)
			wantExchange(t, c.name, h, ref(at), ref(other), h)
			wantReferrers(t, c.name, h, ref(at))
			if i > 40 {
				break
			}
		}
	}
}

// TestBecomeInAFullHeap has all three spaces full, 20 roots, and the last hash, of which there is no need.
func TestBecomeInAFullHeap(t *testing.T) {
	bothWays(func(flip bool, used int64, s int64) {
		h := laidHeap(flip, smallest(500, 1), smallest(150, 501), filled(300, 651))
		h.Hash = 1000000000
		h.Words[used+4], h.Words[used+68] = ref(1996), ref(2596)
		h = ended(h, slices.Repeat([]int64{ref(1996), ref(2596)}, 10)...)
		for _, pair := range [][2]int64{{1996, 2596}, {2596, 1996}, {1996, 0}, {2596, used}, {0, 2000}, {used, used + 256}} {
			if !holdsToBecomeModel(t, "full", h, ref(pair[0]), ref(pair[1])).is {
				t.Errorf("%v was refused", pair)
			}
		}
	})
}

// TestWhatIsReachedThen has an object that lives on by the other's name alone.
func TestWhatIsReachedThen(t *testing.T) {
	h := ended(laidHeap(false, []thing{aThing(1, 1, 0, ref(2000), num(3)), aThing(2, 2, 0, num(4))}, []thing{aThing(3, 3, 0)}, nil), ref(0))
	then, _ := impl.Forward(h, ref(0), ref(6))
	wantShape(t, "forward", then, impl.Graph{Roots: []int64{1}, Nodes: []impl.Node{aNode(2, 2, 8)}, Hash: 4}, 5)
	then, _ = impl.Exchange(h, ref(2000), ref(6))
	wantShape(t, "exchange of what it has", then, impl.Graph{Roots: []int64{1}, Nodes: []impl.Node{aNode(1, 1, 3, 6), aNode(2, 2, 8)}, Hash: 4}, 11)
	then, _ = impl.Exchange(h, ref(0), ref(2000))
	wantShape(t, "exchange with what it has", then, impl.Graph{Roots: []int64{1}, Nodes: []impl.Node{aNode(3, 3)}, Hash: 4}, 4)
	wantGarbage(t, "exchange with what it has", then, 11)
}
