package tests

import (
	"cmp"
	"slices"
	"testing"
	"unsafe"

	"loop.example/g00140/impl"
)

// piece is where the memory of a list lies, its spare room too.
type piece struct {
	from, to uintptr
}

func pieceOf[T any](list []T) piece {
	var one T
	from := uintptr(unsafe.Pointer(unsafe.SliceData(list)))
	return piece{from, from + uintptr(cap(list))*unsafe.Sizeof(one)}
}

func heapPieces(h impl.Heap) []piece {
	return []piece{pieceOf(h.Words), pieceOf(h.Roots), pieceOf(h.Kept)}
}

func graphPieces(g impl.Graph) []piece {
	out := []piece{pieceOf(g.Roots), pieceOf(g.Nodes)}
	for _, x := range g.Nodes {
		out = append(out, pieceOf(x.Fields))
	}
	return out
}

// wantApart fails where two of the lists have a byte of memory in common.
func wantApart(t *testing.T, name string, pieces ...piece) {
	t.Helper()
	pieces = slices.DeleteFunc(pieces, func(p piece) bool { return p.from == p.to })
	slices.SortFunc(pieces, func(a piece, b piece) int { return cmp.Compare(a.from, b.from) })
	for i := 1; i < len(pieces); i++ {
		if pieces[i].from < pieces[i-1].to {
			t.Errorf("%s: two lists share memory", name)
			return
		}
	}
}

// roomyGraph has marked spare room behind each of its lists.
func roomyGraph(g impl.Graph) impl.Graph {
	nodes := slices.Concat(g.Nodes, slices.Repeat([]impl.Node{aNode(77, 77)}, spare))[:len(g.Nodes)]
	for i, x := range nodes {
		nodes[i].Fields = roomyList(x.Fields)
	}
	return impl.Graph{Roots: roomyList(g.Roots), Nodes: nodes, Hash: g.Hash}
}

// wantSameRoomyGraph fails unless g, and the spare room behind its lists, is as roomyGraph(was) was made.
func wantSameRoomyGraph(t *testing.T, name string, g impl.Graph, was impl.Graph) {
	t.Helper()
	if !alike(g, was) {
		t.Errorf("%s: an argument was changed", name)
	}
	lists := [][]int64{g.Roots}
	for _, x := range g.Nodes {
		lists = append(lists, x.Fields)
	}
	for _, list := range lists {
		if !slices.Equal(list[len(list):len(list)+spare], slices.Repeat([]int64{77}, spare)) {
			t.Errorf("%s: %v behind a list", name, list[len(list):len(list)+spare])
		}
	}
	for _, x := range g.Nodes[len(g.Nodes) : len(g.Nodes)+spare] {
		if x.Class != 77 || x.Hash != 77 || len(x.Fields) != 0 {
			t.Errorf("%s: %v behind the nodes", name, x)
		}
	}
}

// scribbleGraph writes over all that a graph has, and over its spare room.
func scribbleGraph(g impl.Graph) {
	scribbleList(g.Roots)
	for _, x := range g.Nodes {
		scribbleList(x.Fields)
	}
	nodes := g.Nodes[:cap(g.Nodes)]
	for i := range nodes {
		nodes[i] = aNode(88, 88, 88)
	}
}

func memoryGraphs() []namedGraph {
	n := numbers(66)
	out := rightGraphs()
	for range 20 {
		out = append(out, namedGraph{"drawn", drawnGraph(&n)})
	}
	return slices.Concat(out, wrongGraphHashes(), wrongNumbering(), wrongNodes()[:60], wrongLinks()[:60], wrongRootCounts()[:6], tooLarge()[:4])
}

// sharedGraph has one list at several places: nothing of that may be in an answer.
func sharedGraph() impl.Graph {
	list := []int64{1, 3, 8, 1}
	return impl.Graph{Roots: list, Nodes: []impl.Node{aNode(1, 1, list...), aNode(2, 2, list...)}, Hash: 3}
}

func TestHeapsOfShapesStay(t *testing.T) {
	for _, c := range memoryHeaps() {
		h := roomyHeap(c.heap)
		impl.Reached(h)
		wantSameHeap(t, "Reached, "+c.name, h, c.heap)
		g := impl.Shape(h)
		wantSameHeap(t, "Shape, "+c.name, h, c.heap)
		wantApart(t, "Shape, "+c.name, slices.Concat(heapPieces(h), graphPieces(g))...)
		scribbleGraph(g)
		wantSameHeap(t, "Shape, scribbled, "+c.name, h, c.heap)
	}
}

func TestGraphArgumentsStay(t *testing.T) {
	for _, c := range append(memoryGraphs(), namedGraph{"shared", sharedGraph()}) {
		g, other := roomyGraph(c.graph), roomyGraph(c.graph)
		impl.GraphOk(g)
		wantSameRoomyGraph(t, "GraphOk, "+c.name, g, c.graph)
		impl.SameGraph(g, other)
		impl.SameGraph(g, midGraph())
		impl.SameGraph(midGraph(), g)
		wantSameRoomyGraph(t, "SameGraph, "+c.name, g, c.graph)
		wantSameRoomyGraph(t, "SameGraph, the other, "+c.name, other, c.graph)
		h, _ := impl.Build(g)
		wantSameRoomyGraph(t, "Build, "+c.name, g, c.graph)
		wantApart(t, "Build, "+c.name, slices.Concat(heapPieces(h), graphPieces(g))...)
		scribbleHeap(h)
		wantSameRoomyGraph(t, "Build, scribbled, "+c.name, g, c.graph)
	}
}

func TestShapesAreNewMemory(t *testing.T) {
	for _, c := range memoryHeaps() {
		h := roomyHeap(c.heap)
		first, second := impl.Shape(h), impl.Shape(h)
		was := cloneGraph(first)
		wantApart(t, "two shapes of "+c.name, slices.Concat(graphPieces(first), graphPieces(second))...)
		scribbleGraph(second)
		if !alike(first, was) {
			t.Errorf("%s: two answers share memory", c.name)
		}
		scribbleHeap(h)
		if !alike(first, was) {
			t.Errorf("%s: the answer changed with the argument", c.name)
		}
	}
}

func TestBuiltHeapsAreNewMemory(t *testing.T) {
	for _, c := range append(memoryGraphs(), namedGraph{"shared", sharedGraph()}) {
		g := roomyGraph(c.graph)
		first, is := impl.Build(g)
		second, again := impl.Build(g)
		was := cloneHeap(first)
		wantApart(t, "two heaps of "+c.name, slices.Concat(heapPieces(first), heapPieces(second))...)
		scribbleHeap(second)
		if !sameHeap(first, was) || is != again {
			t.Errorf("%s: two answers share memory", c.name)
		}
		scribbleGraph(g)
		if !sameHeap(first, was) {
			t.Errorf("%s: the answer changed with the argument", c.name)
		}
	}
}

// TestGraphsOfOneListAtSeveralPlaces builds a graph whose lists are one list.
func TestGraphsOfOneListAtSeveralPlaces(t *testing.T) {
	wantBuilt(t, "one list", sharedGraph(), modelBuild(sharedGraph()))
	wantSame(t, "one list, and lists of their own", sharedGraph(), cloneGraph(sharedGraph()), true)
}

// TestGraphAnswersHangOnTheArgumentsAlone asks of one graph, of others, and of the first one again.
func TestGraphAnswersHangOnTheArgumentsAlone(t *testing.T) {
	for _, c := range memoryGraphs() {
		before, is := impl.Build(c.graph)
		wantBuilt(t, "mid graph between", midGraph(), modelBuild(midGraph()))
		wantWrongGraph(t, "zero graph between", impl.Graph{})
		after, again := impl.Build(c.graph)
		if is != again || !sameHeap(before, after) || impl.GraphOk(c.graph) != is {
			t.Errorf("%s: it is another one now", c.name)
		}
		if g := impl.Shape(before); is && !alike(g, c.graph) {
			t.Errorf("%s: its shape is %v", c.name, g)
		}
	}
}
