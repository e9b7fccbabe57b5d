package tests

import (
	"slices"
	"testing"

	"loop.example/g00140/impl"
)

// rightGraphs are graphs that are right, up to the ends that a graph may have.
func rightGraphs() []namedGraph {
	sixty := slices.Repeat([]int64{num(-1000000000), num(1000000000)}, 30)
	twenty := impl.Graph{Hash: 21}
	for i := range int64(20) {
		twenty.Roots, twenty.Nodes = append(twenty.Roots, ref(i)), append(twenty.Nodes, aNode(i, 20-i))
	}
	high := aGraph([]int64{1, 3}, aNode(0, 999999999), aNode(99, 1))
	return []namedGraph{
		{"no node, Hash 1", impl.Graph{Hash: 1}},
		{"no node, Hash MaxInt", impl.Graph{Hash: 1000000000}},
		{"empty lists", impl.Graph{Roots: []int64{}, Nodes: []impl.Node{}, Hash: 5}},
		{"roots that are numbers", impl.Graph{Roots: []int64{0, 8, -2000000000, 2000000000}, Hash: 1}},
		{"twenty numbers", impl.Graph{Roots: make([]int64, 20), Hash: 2}},
		{"one node", aGraph([]int64{1}, aNode(0, 1))},
		{"one node, Hash above", impl.Graph{Roots: []int64{1}, Nodes: []impl.Node{aNode(99, 1)}, Hash: 1000000000}},
		{"twenty of one", aGraph(slices.Repeat([]int64{1}, 20), aNode(5, 5))},
		{"twenty nodes by roots", twenty},
		{"sixty fields", aGraph([]int64{1}, aNode(1, 1, sixty...))},
		{"to itself", aGraph([]int64{1}, aNode(1, 1, 1, 1, 1))},
		{"a circle of two", aGraph([]int64{1}, aNode(1, 2, 3), aNode(1, 1, 1))},
		{"a circle of three", aGraph([]int64{4, 1}, aNode(1, 2, 3, 5), aNode(1, 7, 1), aNode(3, 4, 3))},
		{"hashes at both ends", high},
		{"hashes that fall", aGraph([]int64{1, 3, 5}, aNode(1, 3), aNode(1, 2), aNode(1, 1))},
		{"mid", midGraph()},
		{"a chain of 400 nodes, 2000 words", chainGraph(400, 1)},
		{"a chain of 31 nodes with 60 fields", chainGraph(31, 60)},
		{"1999 words", sizedGraph(1999)}, {"2000 words", sizedGraph(2000)}, {"1996 words", sizedGraph(1996)},
	}
}

func TestBuildOfSmallGraphs(t *testing.T) {
	words := func(head ...int64) []int64 { return append(head, make([]int64, 3200-len(head))...) }
	for _, c := range []struct {
		name  string
		graph impl.Graph
		words []int64
		roots []int64
		old   int64
	}{
		{"no node", impl.Graph{Hash: 4}, words(), nil, 0},
		{"numbers", impl.Graph{Roots: []int64{6, -8}, Hash: 4}, words(), []int64{6, -8}, 0},
		{"one node", impl.Graph{Roots: []int64{2, 1}, Nodes: []impl.Node{aNode(3, 2)}, Hash: 4}, words(0, 3, 2, 0), []int64{2, 1}, 4},
		{"to itself", impl.Graph{Roots: []int64{1}, Nodes: []impl.Node{aNode(3, 2, -6, 1)}, Hash: 4}, words(2, 3, 2, 0, -6, 1), []int64{1}, 6},
		{"two nodes", impl.Graph{Roots: []int64{1, 8}, Nodes: []impl.Node{aNode(3, 2, 3, 1), aNode(4, 1)}, Hash: 9}, words(2, 3, 2, 0, 13, 1, 0, 4, 1, 0), []int64{1, 8}, 10},
		{"three roots", impl.Graph{Roots: []int64{1, 3, 1}, Nodes: []impl.Node{aNode(9, 8, 5), aNode(7, 6), aNode(5, 4, 3)}, Hash: 9},
			words(1, 9, 8, 0, 19, 0, 7, 6, 0, 1, 5, 4, 0, 11), []int64{1, 11, 1}, 14},
	} {
		want := impl.Heap{Words: c.words, Roots: c.roots, Old: c.old, Eden: 2000, Surv: 2600, Hash: c.graph.Hash}
		wantBuilt(t, c.name, c.graph, want)
	}
}

// TestBuildOfRightGraphs holds every field of the heap against the model: Kept, and the noughts behind the objects, too.
func TestBuildOfRightGraphs(t *testing.T) {
	for _, c := range rightGraphs() {
		if !modelGraphOk(c.graph) {
			t.Fatalf("%s: the model refuses it", c.name)
		}
		want := modelBuild(c.graph)
		if len(want.Kept) != 0 || want.Flip || want.Eden != 2000 || want.Surv != 2600 || len(want.Words) != 3200 {
			t.Fatalf("%s: the model is not as it should be", c.name)
		}
		wantBuilt(t, c.name, c.graph, want)
	}
}

// TestBuiltObjectsAreOldAndOfNoAge asks the functions of the heap about a built one.
func TestBuiltObjectsAreOldAndOfNoAge(t *testing.T) {
	for _, c := range rightGraphs() {
		h, _ := impl.Build(c.graph)
		objects := impl.Objects(h)
		if len(objects) != len(c.graph.Nodes) || impl.Young(h) != 0 {
			t.Fatalf("%s: %d objects, %d of them young", c.name, len(objects), impl.Young(h))
		}
		for i, x := range c.graph.Nodes {
			wantHeader(t, c.name, h, objects[i], [4]int64{int64(len(x.Fields)), x.Class, x.Hash, 0})
		}
	}
}

// TestShapesAreRightGraphs asks GraphOk of shapes, and builds them.
func TestShapesAreRightGraphs(t *testing.T) {
	for _, h := range []impl.Heap{impl.NewHeap(), midHeap(false), midHeap(true), rooted(midHeap(false), ref(2600), num(4), ref(2600)), rooted(midHeap(true), num(1))} {
		g := impl.Shape(h)
		wantBuilt(t, "a shape", g, modelBuild(g))
	}
	wantWrongGraph(t, "the shape of a wrong heap", impl.Shape(impl.Heap{}))
}

// TestShapesTooLargeForTheOldSpace has right heaps whose reached objects, old ones and survivors, take as many words as the old space has, and more.
func TestShapesTooLargeForTheOldSpace(t *testing.T) {
	for _, survivors := range []int64{10, 11, 300} {
		h := laidHeap(false, filled(1990, 1), nil, filled(survivors, 100))
		objects, _ := thingsOf(h)
		h.Roots = []int64{ref(0)}
		for i, at := range objects[1:] {
			h.Words[objects[i]+4] = ref(at)
		}
		h.Kept = []int64{objects[slices.Index(objects, 2600)-1]}
		g, words := modelShape(h)
		if words != 1990+survivors {
			t.Fatalf("%d words are reached", words)
		}
		wantShape(t, "large", h, g, words)
		if words == 2000 {
			wantBuilt(t, "just fits", g, modelBuild(g))
		} else {
			wantWrongGraph(t, digits(words)+" words", g)
		}
	}
}
