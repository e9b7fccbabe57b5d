package tests

import (
	"slices"
	"testing"

	"loop.example/g00140/impl"
)

type namedGraph struct {
	name  string
	graph impl.Graph
}

func aNode(class int64, hash int64, fields ...int64) impl.Node {
	return impl.Node{Class: class, Hash: hash, Fields: fields}
}

// aGraph has these roots and nodes, and Hash as low as it may be.
func aGraph(roots []int64, nodes ...impl.Node) impl.Graph {
	g := impl.Graph{Roots: roots, Nodes: nodes, Hash: 1}
	for _, x := range nodes {
		g.Hash = max(g.Hash, x.Hash+1)
	}
	return g
}

func cloneGraph(g impl.Graph) impl.Graph {
	out := impl.Graph{Roots: slices.Clone(g.Roots), Nodes: slices.Clone(g.Nodes), Hash: g.Hash}
	for i, x := range out.Nodes {
		out.Nodes[i].Fields = slices.Clone(x.Fields)
	}
	return out
}

// alike holds every number of two graphs against each other.
func alike(a impl.Graph, b impl.Graph) bool {
	if a.Hash != b.Hash || !slices.Equal(a.Roots, b.Roots) || len(a.Nodes) != len(b.Nodes) {
		return false
	}
	for i, x := range a.Nodes {
		y := b.Nodes[i]
		if x.Class != y.Class || x.Hash != y.Hash || !slices.Equal(x.Fields, y.Fields) {
			return false
		}
	}
	return true
}

func isZeroHeap(h impl.Heap) bool { return sameHeap(h, impl.Heap{}) }

// wantShape fails unless h has this Shape, the reached objects take so many words, and the Shape is GraphOk where the old space has room for these (-1 words: h is wrong, and so is the zero Graph).
func wantShape(t *testing.T, name string, h impl.Heap, want impl.Graph, words int64) {
	t.Helper()
	if got := impl.Shape(h); !alike(got, want) {
		t.Errorf("%s: the Shape is %v, not %v", name, got, want)
	}
	if got := impl.Reached(h); got != words {
		t.Errorf("%s: %d words are reached, not %d", name, got, words)
	}
	if ok := impl.GraphOk(want); ok != between(0, words, 2000) {
		t.Errorf("%s: GraphOk of the Shape is %v", name, ok)
	}
}

// wantBuilt fails unless g is right, is built as this heap, and is the Shape of that.
func wantBuilt(t *testing.T, name string, g impl.Graph, want impl.Heap) {
	t.Helper()
	if !impl.GraphOk(g) {
		t.Errorf("%s: it is not GraphOk", name)
	}
	h, is := impl.Build(g)
	if !is || !sameHeap(h, want) {
		t.Errorf("%s: Build says %v: old up to %d, roots %v, kept %v, hash %d", name, is, h.Old, h.Roots, h.Kept, h.Hash)
		return
	}
	if !impl.HeapOk(h) {
		t.Errorf("%s: what is built is not right", name)
	}
	wantShape(t, name+", built", h, g, want.Old)
}

// wantWrongGraph fails unless g is refused by the fixed answers.
func wantWrongGraph(t *testing.T, name string, g impl.Graph) {
	t.Helper()
	defer noPanic(t, name)
	if impl.GraphOk(g) {
		t.Errorf("%s: it is GraphOk", name)
	}
	if h, is := impl.Build(g); is || !isZeroHeap(h) {
		t.Errorf("%s: Build says %v: %d words, old up to %d, roots %v", name, is, len(h.Words), h.Old, h.Roots)
	}
}

// midGraph is the Shape of midHeap: what lies at 10, 2000, 2606 (or 2906), 6 and 0.
func midGraph() impl.Graph {
	return impl.Graph{
		Roots: []int64{1, 2000000000, 3, 5, 0},
		Nodes: []impl.Node{aNode(99, 7, 7, 4002, 1), aNode(5, 8, 9), aNode(4, 11), aNode(0, 1), aNode(9, 4, 3, -14)},
		Hash:  13,
	}
}

// chainGraph has n nodes of so many fields, each of which is led to by the last field of the one ahead.
func chainGraph(n int64, fields int64) impl.Graph {
	g := impl.Graph{Roots: []int64{1}, Hash: n + 1}
	for i := range n {
		x := aNode(i%100, n-i, make([]int64, fields)...)
		if i+1 < n {
			x.Fields[fields-1] = ref(i + 1)
		}
		g.Nodes = append(g.Nodes, x)
	}
	return g
}

// sizedGraph takes just so many words (20 or more): a chain of nodes with one field, and one with as many as are left.
func sizedGraph(words int64) impl.Graph {
	g := chainGraph(words/5-1, 1)
	last := int64(len(g.Nodes))
	g.Nodes[last-1].Fields[0] = ref(last)
	g.Nodes = append(g.Nodes, aNode(50, g.Hash, make([]int64, words-last*5-4)...))
	g.Hash++
	return g
}
