package tests

import (
	"slices"

	"loop.example/g00140/impl"
)

// modelHeap says the chapter again, word by word: what each word of a right heap is, told by those ahead of it.
type modelHeap struct {
	heap    impl.Heap
	part    int       // of which space the word is
	place   int64     // how many words of its object are ahead of it
	size    int64     // of that object
	objects []int64   // found so far
	hashes  []int64   // of these
	fields  [][]int64 // of these
}

func modelEnds(h impl.Heap) [4]int64 {
	if h.Flip {
		return [4]int64{h.Old, h.Eden, 2600, h.Surv}
	}
	return [4]int64{h.Old, h.Eden, h.Surv, 2900}
}

func between(low int64, n int64, high int64) bool { return low <= n && n <= high }

// modelObjects are the objects of a right heap; it says whether it is one.
func modelObjects(h impl.Heap) ([]int64, bool) {
	ends, bases := modelEnds(h), [5]int64{0, 2000, 2600, 2900, 3200}
	for i := range ends {
		if !between(bases[i], ends[i], bases[i+1]) {
			return nil, false
		}
	}
	if len(h.Words) != 3200 || !between(1, h.Hash, 1000000000) || len(h.Roots) > 20 {
		return nil, false
	}
	m := &modelHeap{heap: h}
	for a, w := range h.Words {
		for int64(a) == bases[m.part+1] {
			m.part++
		}
		if !m.takes(int64(a), w, ends[m.part]) {
			return nil, false
		}
	}
	if m.place != 0 || !m.meansObjects(h.Roots) || !slices.Equal(h.Kept, m.kept()) {
		return nil, false
	}
	for _, fields := range m.fields {
		if !m.meansObjects(fields) {
			return nil, false
		}
	}
	return m.objects, true
}

// takes says whether the word may stand at a, where the used part ends there.
func (m *modelHeap) takes(a int64, w int64, end int64) bool {
	if a >= end {
		return m.place == 0 && w == 0
	}
	right := true
	switch m.place {
	case 0:
		right = between(0, w, 60)
		m.size = w
		m.objects, m.fields = append(m.objects, a), append(m.fields, nil)
	case 1:
		right = between(0, w, 99)
	case 2:
		right = between(1, w, m.heap.Hash-1) && !slices.Contains(m.hashes, w)
		m.hashes = append(m.hashes, w)
	case 3:
		right = between(0, w, 15)
	default:
		last := len(m.fields) - 1
		m.fields[last] = append(m.fields[last], w)
	}
	m.place++
	if m.place >= 4 && m.place == 4+m.size {
		m.place = 0
	}
	return right
}

func (m *modelHeap) meansObjects(words []int64) bool {
	for _, w := range words {
		if w%2 == 0 && between(-2000000000, w, 2000000000) {
			continue
		}
		if w%2 == 0 || !slices.Contains(m.objects, (w-1)/2) || w < 0 {
			return false
		}
	}
	return true
}

func (m *modelHeap) kept() []int64 {
	var out []int64
	for i, at := range m.objects {
		young := slices.ContainsFunc(m.fields[i], func(w int64) bool { return w%2 != 0 && w > 4000 })
		if at < 2000 && young {
			out = append(out, at)
		}
	}
	return out
}

// drawnHeap is a right heap that the numbers pick.
func drawnHeap(n *numbers) impl.Heap {
	hash := int64(1)
	draw := func(room int) []thing {
		var out []thing
		for used := n.below(60); used < room; {
			size := min(n.below(1+n.below(61)), room-used)
			used += 4 + size
			if used > room {
				break
			}
			out = append(out, aThing(int64(n.below(100)), hash, int64(n.below(16)), make([]int64, size)...))
			hash += 1 + int64(n.below(3))
		}
		return out
	}
	fill := func(room int) []thing { return draw([]int{0, 30, room / 2, room}[n.below(4)]) }
	h := laidHeap(n.below(2) == 1, fill(2000), fill(600), fill(300))
	h.Hash += int64(n.below(3))
	drawnWords(n, &h)
	return h
}

// drawnWords fills fields and roots by words that the numbers pick, and tells Kept.
func drawnWords(n *numbers, h *impl.Heap) {
	objects, fields := thingsOf(*h)
	pick := func() int64 {
		if len(objects) == 0 || n.below(2) == 0 {
			return num(int64(n.below(2000000001)) - 1000000000)
		}
		return ref(objects[n.below(len(objects))])
	}
	for i, at := range objects {
		young := false
		for k := range fields[i] {
			w := pick()
			h.Words[fields[i][k]] = w
			young = young || w%2 != 0 && w > 4000
		}
		if young && at < 2000 {
			h.Kept = append(h.Kept, at)
		}
	}
	for range n.below(21) {
		h.Roots = append(h.Roots, pick())
	}
}

// thingsOf are the addresses of the objects of a laid heap, and of the fields of each.
func thingsOf(h impl.Heap) ([]int64, [][]int64) {
	var objects []int64
	var fields [][]int64
	for i, end := range modelEnds(h) {
		for at := []int64{0, 2000, 2600, 2900}[i]; at < end; at += 4 + h.Words[at] {
			var places []int64
			for k := range h.Words[at] {
				places = append(places, at+4+k)
			}
			objects, fields = append(objects, at), append(fields, places)
		}
	}
	return objects, fields
}
