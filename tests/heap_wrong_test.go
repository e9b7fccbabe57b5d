package tests

import (
	"slices"
	"testing"

	"loop.example/g00140/impl"
)

// changed is midHeap with one thing changed.
func changed(flip bool, change func(h *impl.Heap)) impl.Heap {
	h := midHeap(flip)
	change(&h)
	return h
}

// withWord is midHeap with one word changed.
func withWord(at int64, w int64) impl.Heap {
	return changed(false, func(h *impl.Heap) { h.Words[at] = w })
}

// withEnds is a heap of noughts whose used parts end there.
func withEnds(flip bool, old int64, eden int64, surv int64) impl.Heap {
	return impl.Heap{Words: make([]int64, 3200), Old: old, Eden: eden, Surv: surv, Flip: flip, Hash: 1}
}

func wrongCounts() []namedHeap {
	counted := func(n int) impl.Heap {
		h := impl.NewHeap()
		h.Words = make([]int64, n)
		return h
	}
	short := changed(false, func(h *impl.Heap) { h.Words = h.Words[:3199] })
	long := changed(false, func(h *impl.Heap) { h.Words = append(h.Words, 0) })
	return []namedHeap{
		{"the zero Heap", impl.Heap{}},
		{"no words", counted(0)}, {"1 word", counted(1)}, {"2000 words", counted(2000)},
		{"3199 words", counted(3199)}, {"3201 words", counted(3201)}, {"6400 words", counted(6400)},
		{"a word too few", short}, {"a word too many", long},
	}
}

// wrongEnds are heaps without an object whose used parts end out of their ranges, or within noughts.
func wrongEnds() []namedHeap {
	var out []namedHeap
	for _, end := range append([]int64{1, 4, 64, 1999, 2000, 2001, 2600, 3200, 3201}, farHeapNumbers...) {
		out = append(out, namedHeap{"Old " + digits(end), withEnds(false, end, 2000, 2600)})
	}
	for _, end := range append([]int64{0, 4, 1996, 1999, 2001, 2004, 2600, 2601, 3200, 3201}, farHeapNumbers...) {
		out = append(out, namedHeap{"Eden " + digits(end), withEnds(false, 0, end, 2600)})
	}
	for _, end := range append([]int64{0, 2000, 2596, 2599, 2601, 2604, 2900, 2901, 3200, 3201}, farHeapNumbers...) {
		out = append(out, namedHeap{"Surv " + digits(end), withEnds(false, 0, 2000, end)})
	}
	for _, end := range append([]int64{0, 2000, 2600, 2896, 2899, 2901, 2904, 3200, 3201}, farHeapNumbers...) {
		out = append(out, namedHeap{"Surv of the others " + digits(end), withEnds(true, 0, 2000, end)})
	}
	return out
}

// crossing are heaps in which an object goes on beyond the end of its space, whose words there are the next one's.
func crossing() []namedHeap {
	past := func(words int64) []thing { return filled(words+1, 1) }
	old, eden, surv := laidHeap(true, past(2000), nil, nil), laidHeap(true, nil, past(600), nil), laidHeap(false, nil, nil, past(300))
	far := laidHeap(false, filled(2048, 1), nil, nil)
	far.Old = 2000
	behind := midHeap(true)
	behind.Words = append(behind.Words, make([]int64, 10)...)
	behind.Surv = lay(behind.Words, 2900, filled(301, 20))
	behind.Hash, behind.Roots, behind.Words[21] = 100, nil, 0
	behind.Kept = []int64{0}
	cut := cloneHeap(behind)
	cut.Words = cut.Words[:3200]
	return []namedHeap{
		{"old ones up to 2001", old}, {"eden up to 2601", eden}, {"survivors up to 2901", surv},
		{"an old one from 1984 to 2048, Old 2000", far},
		{"survivors up to 3201 of 3210 words", behind}, {"survivors up to 3201 of 3200 words", cut},
	}
}

// wrongParts are heaps whose used parts end within an object, or have a gap, or end ahead of an object or behind it.
func wrongParts() []namedHeap {
	var out []namedHeap
	for _, less := range []int64{1, 2, 3, 4, 5} {
		out = append(out,
			namedHeap{"Old less " + digits(less), changed(false, func(h *impl.Heap) { h.Old -= less })},
			namedHeap{"Eden less " + digits(less), changed(false, func(h *impl.Heap) { h.Eden -= less })},
			namedHeap{"Surv less " + digits(less), changed(false, func(h *impl.Heap) { h.Surv -= less })},
			namedHeap{"Surv of the others less " + digits(less), changed(true, func(h *impl.Heap) { h.Surv -= less })},
			namedHeap{"Old and " + digits(less), changed(false, func(h *impl.Heap) { h.Old += less })},
			namedHeap{"Eden and " + digits(less), changed(false, func(h *impl.Heap) { h.Eden += less })},
			namedHeap{"Surv and " + digits(less), changed(false, func(h *impl.Heap) { h.Surv += less })},
			namedHeap{"Surv of the others and " + digits(less), changed(true, func(h *impl.Heap) { h.Surv += less })},
		)
	}
	for _, at := range []int64{0, 2000, 2600} {
		for gap := int64(1); gap <= 8; gap++ {
			h := impl.NewHeap()
			end := lay(h.Words, at, []thing{aThing(1, 1, 0)}) + gap
			end = lay(h.Words, end, []thing{aThing(2, 2, 0)})
			*map[int64]*int64{0: &h.Old, 2000: &h.Eden, 2600: &h.Surv}[at] = end
			h.Hash = 3
			out = append(out, namedHeap{"a gap of " + digits(gap) + " from " + digits(at+4), h})
		}
		h := impl.NewHeap()
		end := lay(h.Words, at+1, []thing{aThing(1, 1, 0)})
		*map[int64]*int64{0: &h.Old, 2000: &h.Eden, 2600: &h.Surv}[at] = end
		h.Hash = 2
		out = append(out, namedHeap{"a gap at " + digits(at), h})
	}
	return out
}

// fallow are right heaps but for one word behind the used parts that is not 0.
func fallow() []namedHeap {
	var out []namedHeap
	for _, at := range []int64{22, 23, 1000, 1999, 2009, 2300, 2599, 2610, 2899, 2900, 3000, 3199} {
		for _, w := range []int64{1, 2, -1, -1 << 63, 1<<63 - 1} {
			out = append(out, namedHeap{digits(w) + " at " + digits(at), withWord(at, w)})
		}
	}
	for _, at := range []int64{2600, 2601, 2899, 2910, 3199} {
		out = append(out, namedHeap{"2 at " + digits(at) + ", the other survivors in use", changed(true, func(h *impl.Heap) { h.Words[at] = 2 })})
	}
	both := changed(false, func(h *impl.Heap) { lay(h.Words, 2900, []thing{aThing(1, 3, 0)}) })
	turned := laidHeap(false, nil, nil, filled(300, 1))
	turned.Flip = true
	half := laidHeap(true, nil, nil, filled(300, 1))
	half.Flip, half.Surv = false, 2900
	return append(out, namedHeap{"an object among the survivors that are not in use", both},
		namedHeap{"full survivors, and the others in use", turned}, namedHeap{"the other ones full, and Surv 2900", half})
}

// wrongHeaders are heaps in which one number of a header is out of range, and all else fits to it where that can be.
func wrongHeaders() []namedHeap {
	numbered := func(name string, at int64, wrong ...int64) []namedHeap {
		var out []namedHeap
		for _, n := range append(wrong, farHeapNumbers...) {
			out = append(out, namedHeap{name + digits(n), withWord(at, n)})
		}
		return out
	}
	out := slices.Concat(
		numbered("the size of an old one is ", 6, 61, 62, 100, 1994, 3200), numbered("the size of a young one is ", 2005, 61, 591, 3200), numbered("the size of a survivor is ", 2606, 61, 290),
		numbered("an old class is ", 1, 100, 101, 256), numbered("a young class is ", 2001, 100, 101), numbered("a survivor's class is ", 2607, 100, 101),
		numbered("an old hash is ", 2, 0, 13, 14, 1000000000), numbered("a young hash is ", 2002, 0, 13, 14), numbered("a survivor's hash is ", 2602, 0, 13, 14),
		numbered("an old age is ", 3, 16, 17, 100), numbered("a young age is ", 2003, 16, 17), numbered("a survivor's age is ", 2603, 16, 17),
	)
	large := laidHeap(false, []thing{aThing(1, 1, 0, make([]int64, 61)...), aThing(2, 2, 0)}, nil, nil)
	small := impl.NewHeap()
	copy(small.Words, []int64{-1, 5, 1, 0, 6, 2, 0})
	small.Old, small.Hash = 7, 3
	still := impl.NewHeap()
	copy(still.Words, []int64{-4, 5, 1, 0})
	still.Old, still.Hash = 4, 2
	return append(out, namedHeap{"61 fields", large}, namedHeap{"a size of -1, the next one 3 words on", small}, namedHeap{"a size of -4, the next one at the same place", still})
}

// wrongHashes are heaps with hashes that are alike or not below Hash, and with Hash out of range.
func wrongHashes() []namedHeap {
	var out []namedHeap
	hashes := []int64{2, 8, 12, 19, 2002, 2007, 2602, 2608}
	for i, a := range hashes {
		for _, b := range hashes[i+1:] {
			h := midHeap(false)
			h.Words[b] = h.Words[a]
			out = append(out, namedHeap{"alike hashes at " + digits(a) + " and " + digits(b), h})
		}
	}
	for _, hash := range append([]int64{0, 1, 2, 11, 12, 1000000001, 1000000002, 2000000000}, farHeapNumbers...) {
		out = append(out, namedHeap{"Hash " + digits(hash), changed(false, func(h *impl.Heap) { h.Hash = hash })})
	}
	for _, hash := range append([]int64{0, 1000000001}, farHeapNumbers...) {
		h := impl.NewHeap()
		h.Hash = hash
		out = append(out, namedHeap{"no object, Hash " + digits(hash), h})
	}
	nought := impl.NewHeap()
	nought.Old = 4
	last := laidHeap(false, []thing{aThing(0, 1000000000, 0)}, nil, nil)
	top := cloneHeap(last)
	top.Hash = 1000000000
	return append(out, namedHeap{"an object of noughts", nought}, namedHeap{"the hash MaxInt below Hash MaxInt + 1", last}, namedHeap{"the hash MaxInt, Hash MaxInt", top})
}

// wrongWords are no words, or addresses of no object of midHeap.
func wrongWords() []int64 {
	out := []int64{2000000002, 2000000001, 1999999999, -2000000002, -1999999999, -1, -3, 6401, 6403, 1 << 32, 1<<32 + 1, -1 << 63, 1<<63 - 1, 1<<62 + 1}
	for at := int64(0); at < 3200; at++ {
		near := at < 40 || at > 1990 && at < 2020 || at > 2590 && at < 2620 || at > 2890 && at < 2920 || at > 3190
		if near && !slices.Contains(midObjects(false), at) {
			out = append(out, ref(at))
		}
	}
	return out
}

func wrongFields() []namedHeap {
	var out []namedHeap
	for _, w := range wrongWords() {
		for _, at := range []int64{5, 14, 16, 2004, 2604, 2605} {
			out = append(out, namedHeap{"field " + digits(at) + " is " + digits(w), withWord(at, w)})
		}
		for i := range midHeap(false).Roots {
			out = append(out, namedHeap{"root " + digits(int64(i)) + " is " + digits(w), changed(false, func(h *impl.Heap) { h.Roots[i] = w })})
		}
	}
	turned := changed(true, func(h *impl.Heap) { h.Roots[3] = ref(2606) })
	empty := impl.NewHeap()
	empty.Roots = []int64{ref(0)}
	return append(out, namedHeap{"a root among the survivors that are not in use", turned}, namedHeap{"a root in a heap of no object", empty})
}

func wrongRoots() []namedHeap {
	var out []namedHeap
	for _, n := range []int{21, 22, 40, 3200} {
		h := impl.NewHeap()
		h.Roots = make([]int64, n)
		out = append(out, namedHeap{digits(int64(n)) + " roots", h})
	}
	many := changed(false, func(h *impl.Heap) { h.Roots = slices.Repeat([]int64{ref(6)}, 21) })
	last := changed(false, func(h *impl.Heap) { h.Roots = append(slices.Repeat([]int64{ref(6)}, 19), ref(7)) })
	return append(out, namedHeap{"21 roots of objects", many}, namedHeap{"the last of 20 roots", last})
}

// wrongKept are heaps that are right but for Kept, which should be 0 and 17.
func wrongKept() []namedHeap {
	var out []namedHeap
	for _, kept := range [][]int64{
		nil, {0}, {17}, {17, 0}, {0, 0}, {0, 0, 17}, {0, 17, 17}, {0, 17, 0}, {17, 17}, {0, 6, 17}, {0, 10, 17}, {0, 17, 22}, {0, 18}, {1, 17}, {0, 1, 17}, {-1, 0, 17},
		{0, 17, 2000}, {0, 17, 2005}, {0, 17, 2600}, {0, 17, 2606}, {0, 17, 3200}, {0, 17, 1<<63 - 1}, {-1 << 63, 0, 17}, {ref(0), ref(17)}, {1 << 32, 17}, {0, 10}, {6, 10, 17},
	} {
		name := "Kept"
		for _, at := range kept {
			name += " " + digits(at)
		}
		out = append(out, namedHeap{name, changed(false, func(h *impl.Heap) { h.Kept = kept })})
	}
	none := impl.NewHeap()
	none.Kept = []int64{0}
	gone := changed(false, func(h *impl.Heap) { h.Words[21] = ref(6) })
	come := changed(false, func(h *impl.Heap) { h.Words[16] = ref(2606) })
	return append(out, namedHeap{"Kept in a heap of no object", none}, namedHeap{"kept, though its address is an old one", gone}, namedHeap{"not kept, though its last address is a young one", come})
}

// wrongHeaps are heaps that are not right.
func wrongHeaps() []namedHeap {
	return slices.Concat(wrongCounts(), wrongEnds(), crossing(), wrongParts(), fallow(), wrongHeaders(), wrongHashes(), wrongFields(), wrongRoots(), wrongKept())
}

func TestWrongHeapsHaveFixedAnswers(t *testing.T) {
	for _, c := range wrongHeaps() {
		wantWrongHeap(t, c.name, c.heap)
		if _, is := modelObjects(c.heap); is {
			t.Errorf("%s: the model takes it for a right one", c.name)
		}
	}
}

// TestWrongHeapsAnswerAtFarAddresses asks for headers where there is no word, too.
func TestWrongHeapsAnswerAtFarAddresses(t *testing.T) {
	for _, c := range slices.Concat(wrongCounts(), crossing()) {
		func() {
			defer noPanic(t, c.name)
			for _, at := range append([]int64{0, 1, 1984, 2000, 2600, 2900, 3199, 3200, 3201}, farHeapNumbers...) {
				wantHeader(t, c.name, c.heap, at, [4]int64{-1, -1, -1, -1})
			}
		}()
	}
}
