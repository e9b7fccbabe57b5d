package tests

import (
	"slices"
	"testing"

	"loop.example/g00140/impl"
)

// rooted is a heap with these roots.
func rooted(h impl.Heap, roots ...int64) impl.Heap {
	h.Roots = roots
	return h
}

func TestShapeOfANewHeap(t *testing.T) {
	h := impl.NewHeap()
	wantShape(t, "new", h, impl.Graph{Hash: 1}, 0)
	h.Flip, h.Surv, h.Hash = true, 2900, 1000000000
	wantShape(t, "new, the other survivors, Hash MaxInt", h, impl.Graph{Hash: 1000000000}, 0)
}

func TestShapeOfObjectsInEachSpace(t *testing.T) {
	one := []thing{aThing(99, 500, 15, num(3))}
	want := aGraph([]int64{1}, aNode(99, 500, num(3)))
	for _, c := range []namedHeap{
		{"old", rooted(laidHeap(false, one, nil, nil), ref(0))},
		{"eden", rooted(laidHeap(false, nil, one, nil), ref(2000))},
		{"survivors", rooted(laidHeap(false, nil, nil, one), ref(2600))},
		{"the other survivors", rooted(laidHeap(true, nil, nil, one), ref(2900))},
		{"eden, the other survivors", rooted(laidHeap(true, nil, one, nil), ref(2000))},
		{"old, behind others", rooted(laidHeap(false, append(filled(1995, 1), one...), nil, nil), ref(1995))},
		{"eden, behind others", rooted(laidHeap(false, nil, append(filled(595, 1), one...), nil), ref(2595))},
		{"the other survivors, behind others", rooted(laidHeap(true, nil, nil, append(filled(295, 1), one...)), ref(3195))},
	} {
		wantShape(t, c.name, c.heap, want, 5)
	}
	wantShape(t, "all", midHeap(false), midGraph(), 26)
	wantShape(t, "all, the other survivors", midHeap(true), midGraph(), 26)
}

// TestShapeOfSeveralRoots has objects at 0, 4 and 9 of which the roots tell some.
func TestShapeOfSeveralRoots(t *testing.T) {
	h := laidHeap(false, []thing{aThing(1, 30, 0), aThing(2, 20, 1, num(-5)), aThing(3, 10, 2)}, nil, nil)
	one, two, three := aNode(1, 30), aNode(2, 20, num(-5)), aNode(3, 10)
	for _, c := range []struct {
		name  string
		roots []int64
		want  []int64
		nodes []impl.Node
		words int64
	}{
		{"no root", nil, nil, nil, 0},
		{"a number", []int64{num(7)}, []int64{num(7)}, nil, 0},
		{"numbers that would be addresses", []int64{0, 8, 18, num(4), num(9)}, []int64{0, 8, 18, 8, 18}, nil, 0},
		{"the ends of the numbers", []int64{num(-1000000000), num(1000000000)}, []int64{-2000000000, 2000000000}, nil, 0},
		{"the first", []int64{ref(0)}, []int64{1}, []impl.Node{one}, 4},
		{"the last", []int64{ref(9)}, []int64{1}, []impl.Node{three}, 4},
		{"from the last on", []int64{ref(9), ref(4), ref(0)}, []int64{1, 3, 5}, []impl.Node{three, two, one}, 13},
		{"one twice", []int64{ref(4), ref(4)}, []int64{1, 1}, []impl.Node{two}, 5},
		{"one among others, three times", []int64{ref(4), ref(0), ref(4), num(1), ref(9), ref(4)}, []int64{1, 3, 1, 2, 5, 1}, []impl.Node{two, one, three}, 13},
		{"twenty of one", slices.Repeat([]int64{ref(9)}, 20), slices.Repeat([]int64{1}, 20), []impl.Node{three}, 4},
		{"numbers around", []int64{num(3), ref(9), num(0), ref(0), num(9)}, []int64{6, 1, 0, 3, 18}, []impl.Node{three, one}, 8},
	} {
		wantShape(t, c.name, rooted(h, c.roots...), impl.Graph{Roots: c.want, Nodes: c.nodes, Hash: 31}, c.words)
	}
}

// TestShapeOfFields has objects of two fields each at 0, 6, 12 and 18, and one root.
func TestShapeOfFields(t *testing.T) {
	for _, c := range []struct {
		name   string
		root   int64
		fields [8]int64
		want   []impl.Node
	}{
		{"to itself", 6, [8]int64{0, 0, ref(6), ref(6)}, []impl.Node{aNode(1, 2, 1, 1)}},
		{"to itself, in the last field", 18, [8]int64{6: 4, 7: ref(18)}, []impl.Node{aNode(3, 4, 4, 1)}},
		{"a circle of two", 0, [8]int64{ref(12), 0, 0, 0, ref(0), 2}, []impl.Node{aNode(0, 1, 3, 0), aNode(2, 3, 1, 2)}},
		{"a circle of all", 12, [8]int64{0: ref(6), 2: ref(12), 4: ref(18), 6: ref(0)}, []impl.Node{aNode(2, 3, 3, 0), aNode(3, 4, 5, 0), aNode(0, 1, 7, 0), aNode(1, 2, 1, 0)}},
		{"two by two", 0, [8]int64{ref(18), ref(12), 0, 0, ref(6), ref(18), 0, ref(6)}, []impl.Node{aNode(0, 1, 3, 5), aNode(3, 4, 0, 7), aNode(2, 3, 7, 3), aNode(1, 2, 0, 0)}},
		{"what leads to it is not reached", 6, [8]int64{ref(6), ref(18), 8, 2, ref(6), ref(0), ref(6), ref(6)}, []impl.Node{aNode(1, 2, 8, 2)}},
		{"all fields of a node ahead of the next one's", 18, [8]int64{ref(6), 0, 0, 0, ref(0), 0, ref(12), ref(0)}, []impl.Node{aNode(3, 4, 3, 5), aNode(2, 3, 5, 0), aNode(0, 1, 7, 0), aNode(1, 2, 0, 0)}},
	} {
		var old []thing
		for i := range int64(4) {
			old = append(old, aThing(i, i+1, i, c.fields[2*i], c.fields[2*i+1]))
		}
		wantShape(t, c.name, rooted(laidHeap(false, old, nil, nil), ref(c.root)), impl.Graph{Roots: []int64{1}, Nodes: c.want, Hash: 5}, int64(6*len(c.want)))
	}
}

// TestShapeIsWideAheadOfDeep has a root whose first field leads down far, and whose second one leads to a leaf.
func TestShapeIsWideAheadOfDeep(t *testing.T) {
	old := []thing{aThing(0, 1, 0, ref(6), ref(16)), aThing(1, 2, 0, ref(11)), aThing(2, 3, 0, num(0)), aThing(3, 4, 0)}
	want := aGraph([]int64{1}, aNode(0, 1, 3, 5), aNode(1, 2, 7), aNode(3, 4), aNode(2, 3, 0))
	wantShape(t, "wide", rooted(laidHeap(false, old, nil, nil), ref(0)), want, 20)
}

// TestAgesAndPlacesAreNotInTheShape lays the same objects down in other spaces, at other ages.
func TestAgesAndPlacesAreNotInTheShape(t *testing.T) {
	want := aGraph([]int64{1, 3}, aNode(7, 5, 3, 8), aNode(8, 9, 1))
	things := func(a int64, b int64, age int64) ([]thing, []thing) {
		return []thing{aThing(7, 5, age, ref(b), 8)}, []thing{aThing(8, 9, 15-age, ref(a))}
	}
	a, b := things(0, 6, 0)
	wantShape(t, "old", rooted(laidHeap(false, append(a, b...), nil, nil), ref(0), ref(6)), want, 11)
	a, b = things(5, 0, 3)
	wantShape(t, "old, turned round", rooted(laidHeap(false, append(b, a...), nil, nil), ref(5), ref(0)), want, 11)
	a, b = things(2600, 2000, 14)
	wantShape(t, "young", rooted(laidHeap(false, nil, b, a), ref(2600), ref(2000)), want, 11)
	a, b = things(0, 2900, 15)
	kept := rooted(laidHeap(true, a, nil, b), ref(0), ref(2900))
	kept.Kept = []int64{0}
	wantShape(t, "old and young", kept, want, 11)
}

// TestKeptObjectsAreNoRoots has an old object that is kept and that nothing reaches.
func TestKeptObjectsAreNoRoots(t *testing.T) {
	h := laidHeap(false, []thing{aThing(0, 1, 0, ref(2000))}, []thing{aThing(0, 2, 0)}, nil)
	h.Kept = []int64{0}
	wantShape(t, "kept alone", h, impl.Graph{Hash: 3}, 0)
}

func TestShapeOfFullHeaps(t *testing.T) {
	for _, flip := range []bool{false, true} {
		h := laidHeap(flip, filled(2000, 1), filled(600, 100), filled(300, 200))
		wantShape(t, "full, nothing reached", h, impl.Graph{Hash: h.Hash}, 0)
		objects, _ := thingsOf(h)
		h.Roots = []int64{ref(0)}
		for i, at := range objects[1:] {
			h.Words[objects[i]+4] = ref(at)
		}
		h.Kept = []int64{objects[slices.Index(objects, 2000)-1]}
		want, words := modelShape(h)
		if words != 2900 || len(want.Nodes) != len(objects) {
			t.Fatal(words, len(want.Nodes), len(objects))
		}
		wantShape(t, "full, all reached", h, want, 2900)
	}
}

// TestAsManyNodesAsThereMayBe has 20 roots from which 20 chains go through all spaces: every word of these is an object's, and every field leads on.
func TestAsManyNodesAsThereMayBe(t *testing.T) {
	links := func(n int, hash int64) []thing {
		var out []thing
		for range n {
			out = append(out, aThing(hash%100, hash, 0, 0))
			hash++
		}
		return out
	}
	for _, flip := range []bool{false, true} {
		h := laidHeap(flip, links(400, 1), links(120, 401), append(links(44, 521), smallest(20, 565)...))
		objects, _ := thingsOf(h)
		want := impl.Graph{Hash: 585}
		for i, at := range objects {
			x := aNode(int64(i+1)%100, int64(i+1))
			if i < 20 {
				h.Roots, want.Roots = append(h.Roots, ref(at)), append(want.Roots, ref(int64(i)))
			}
			if i < 564 {
				h.Words[at+4] = ref(objects[i+20])
				x.Fields = []int64{ref(int64(i + 20))}
			}
			if i >= 380 && i < 400 {
				h.Kept = append(h.Kept, at)
			}
			want.Nodes = append(want.Nodes, x)
		}
		wantShape(t, "584 nodes", h, want, 2900)
		wantWrongGraph(t, "584 nodes", want)
	}
}

// TestWrongHeapsHaveNoShape gives the zero Graph and -1 for each heap that is not right.
func TestWrongHeapsHaveNoShape(t *testing.T) {
	for _, c := range wrongHeaps() {
		func() {
			defer noPanic(t, c.name)
			wantShape(t, c.name, c.heap, impl.Graph{}, -1)
		}()
	}
}
