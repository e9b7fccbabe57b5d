package tests

import (
	"slices"
	"testing"

	"loop.example/g00140/impl"
)

// scavenged is all that the chapter's functions tell of a heap.
type scavenged struct {
	heap      impl.Heap
	is        bool
	survivors int64
	promoted  int64
}

// modelScavenger says the chapter again: first who is moved, then where each goes, then what every word is.
type modelScavenger struct {
	was   impl.Heap
	moved []int64
	to    map[int64]int64
	old   int64
	surv  int64
}

func modelScavenge(h impl.Heap) scavenged {
	if _, is := modelObjects(h); !is {
		return scavenged{survivors: -1, promoted: -1}
	}
	m := &modelScavenger{was: h, to: map[int64]int64{}}
	m.come(h.Roots)
	for _, at := range h.Kept {
		m.come(m.fields(at))
	}
	for i := 0; i < len(m.moved); i++ {
		m.come(m.fields(m.moved[i]))
	}
	promoted := m.place()
	out := scavenged{survivors: int64(len(m.moved)), promoted: -1}
	if m.old <= 2000 {
		out.heap, out.is, out.promoted = m.then(), true, promoted
	}
	return out
}

func (m *modelScavenger) fields(at int64) []int64 { return m.was.Words[at+4 : at+4+m.was.Words[at]] }

func (m *modelScavenger) come(words []int64) {
	for _, w := range words {
		if w%2 != 0 && w > 4000 && !slices.Contains(m.moved, (w-1)/2) {
			m.moved = append(m.moved, (w-1)/2)
		}
	}
}

// place finds a place for each of the moved, and tells how many go to the old space.
func (m *modelScavenger) place() int64 {
	promoted := int64(0)
	m.old, m.surv = m.was.Old, otherSurvivors(m.was.Flip)
	end := m.surv + 300
	for _, at := range m.moved {
		words := 4 + m.was.Words[at]
		if m.was.Words[at+3] >= 2 || end-m.surv < words {
			m.to[at] = m.old
			m.old += words
			promoted++
		} else {
			m.to[at] = m.surv
			m.surv += words
		}
	}
	return promoted
}

func (m *modelScavenger) then() impl.Heap {
	h := impl.Heap{Words: make([]int64, 3200), Old: m.old, Eden: 2000, Surv: m.surv, Flip: !m.was.Flip, Hash: m.was.Hash}
	objects, _ := thingsOf(m.was)
	for _, at := range objects {
		to, is := m.to[at]
		if at < 2000 {
			to, is = at, true
		}
		if !is {
			continue
		}
		age := m.was.Words[at+3]
		if at >= 2000 && age < 15 {
			age++
		}
		lay(h.Words, to, []thing{aThing(m.was.Words[at+1], m.was.Words[at+2], age, m.words(m.fields(at))...)})
	}
	h.Roots, h.Kept = m.words(m.was.Roots), modelKept(h)
	return h
}

// words are these with the new address for each young one.
func (m *modelScavenger) words(words []int64) []int64 {
	var out []int64
	for _, w := range words {
		if w%2 != 0 && w > 4000 {
			w = ref(m.to[(w-1)/2])
		}
		out = append(out, w)
	}
	return out
}

// otherSurvivors is where the survivors begin that are not in use.
func otherSurvivors(flip bool) int64 {
	if flip {
		return 2600
	}
	return 2900
}

// wantScavenge fails unless the three functions tell just this.
func wantScavenge(t *testing.T, name string, h impl.Heap, want scavenged) {
	t.Helper()
	defer noPanic(t, name)
	got, is := impl.Scavenge(h)
	if is != want.is || !sameHeap(got, want.heap) {
		t.Errorf("%s: Scavenge says %v: %s; not %v: %s", name, is, heapText(got), want.is, heapText(want.heap))
	}
	if n := impl.Survivors(h); n != want.survivors {
		t.Errorf("%s: Survivors are %d, not %d", name, n, want.survivors)
	}
	if n := impl.Promote(h); n != want.promoted {
		t.Errorf("%s: Promote is %d, not %d", name, n, want.promoted)
	}
}

// wantMoved fails unless the scavenged heap is this one, right, with the same graph; it answers that heap.
func wantMoved(t *testing.T, name string, h impl.Heap, want impl.Heap, survivors int64, promoted int64) impl.Heap {
	t.Helper()
	if !impl.HeapOk(h) || !impl.HeapOk(want) {
		t.Fatalf("%s: the test's own heaps are not right: %s; %s", name, heapText(h), heapText(want))
	}
	wantScavenge(t, name, h, scavenged{want, true, survivors, promoted})
	got, _ := impl.Scavenge(h)
	wantSameGraph(t, name, h, got)
	return got
}

// wantNotMoved fails unless Scavenge says false, though so many young ones are come to (-1: the heap is wrong).
func wantNotMoved(t *testing.T, name string, h impl.Heap, survivors int64) {
	t.Helper()
	wantScavenge(t, name, h, scavenged{survivors: survivors, promoted: -1})
}

// wantSameGraph fails unless the heap is right then and has the graph that it had.
func wantSameGraph(t *testing.T, name string, h impl.Heap, then impl.Heap) {
	t.Helper()
	if !impl.HeapOk(then) {
		t.Fatalf("%s: then it is not right: %s", name, heapText(then))
	}
	if a, b := impl.Shape(h), impl.Shape(then); !impl.SameGraph(a, b) || !alike(a, b) {
		t.Fatalf("%s: then its graph is %v, not %v", name, b, a)
	}
}

// heapText is a right heap in short: its ends, roots and kept ones, and where each object is, by its hash.
func heapText(h impl.Heap) string {
	text := "ends"
	for _, list := range [][]int64{{h.Old, h.Eden, h.Surv, h.Hash}, h.Roots, h.Kept} {
		for _, n := range list {
			text += " " + digits(n)
		}
		text += ";"
	}
	for _, at := range impl.Objects(h) {
		text += " " + digits(h.Words[at+2]) + " at " + digits(at)
	}
	return text
}

// bothWays does it with either survivors in use: these begin at used, the others at spare.
func bothWays(do func(flip bool, used int64, spare int64)) {
	do(false, 2600, 2900)
	do(true, 2900, 2600)
}

// ended is a heap with these roots, and with Kept told.
func ended(h impl.Heap, roots ...int64) impl.Heap {
	h = rooted(h, roots...)
	h.Kept = modelKept(h)
	return h
}

// movedHeap is what is scavenged: nothing in eden, the other survivors, and the same Hash.
func movedHeap(was impl.Heap, old []thing, surv []thing, roots ...int64) impl.Heap {
	h := ended(laidHeap(!was.Flip, old, nil, surv), roots...)
	h.Hash = was.Hash
	return h
}

// drawnYoung is a drawn heap with young ages, of whose addresses only some are left: all, every fourth, or few.
func drawnYoung(n *numbers) impl.Heap {
	h := drawnHeap(n)
	left := []int{1, 4, 25}[n.below(3)]
	top := []int{2, 4, 16}[n.below(3)]
	pick := func(w int64) int64 {
		if n.below(left) == 0 {
			return w
		}
		return num(w)
	}
	objects, fields := thingsOf(h)
	for i, at := range objects {
		if at >= 2000 {
			h.Words[at+3] = int64(n.below(top))
		}
		for _, place := range fields[i] {
			if h.Words[place]%2 != 0 {
				h.Words[place] = pick(h.Words[place])
			}
		}
	}
	for i, w := range h.Roots {
		if w%2 != 0 {
			h.Roots[i] = pick(w)
		}
	}
	h.Kept = modelKept(h)
	return h
}
