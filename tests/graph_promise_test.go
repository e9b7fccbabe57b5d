package tests

import (
	"testing"

	"loop.example/g00140/impl"
)

// holdsToGraphModel fails unless the functions tell of g what the model tells.
func holdsToGraphModel(t *testing.T, name string, g impl.Graph) bool {
	t.Helper()
	is := modelGraphOk(g)
	if is {
		wantBuilt(t, name, g, modelBuild(g))
	} else {
		wantWrongGraph(t, name, g)
	}
	return is
}

// TestShapeOfBuildIsTheGraph builds drawn graphs.
func TestShapeOfBuildIsTheGraph(t *testing.T) {
	n := numbers(62)
	nodes := 0
	for range 400 {
		g := drawnGraph(&n)
		if !holdsToGraphModel(t, "drawn", g) {
			t.Fatal("the drawn graph is not right")
		}
		h, _ := impl.Build(g)
		if s := impl.Shape(h); !impl.SameGraph(s, g) {
			t.Fatalf("the shape of %v is %v", g, s)
		}
		nodes += len(g.Nodes)
	}
	if nodes < 4000 {
		t.Errorf("%d nodes are few", nodes)
	}
}

// TestShapesOfDrawnHeaps holds Shape and Reached against the model, and builds what has room.
func TestShapesOfDrawnHeaps(t *testing.T) {
	n := numbers(63)
	fit, large, loose := 0, 0, 0
	for range 400 {
		h := drawnHeap(&n)
		want, words := modelShape(h)
		wantShape(t, "drawn", h, want, words)
		if holdsToGraphModel(t, "the shape of a drawn one", want) {
			fit++
		} else {
			large++
		}
		if objects, _ := thingsOf(h); len(want.Nodes) < len(objects) {
			loose++
		}
		if t.Failed() {
			t.FailNow()
		}
	}
	if fit < 50 || large < 50 || loose < 50 {
		t.Errorf("%d that fit, %d that do not, %d with objects that are not reached: too few of a kind", fit, large, loose)
	}
}

// TestShapesOfHurtHeaps asks of heaps of which one number is another.
func TestShapesOfHurtHeaps(t *testing.T) {
	n := numbers(64)
	right, wrong := 0, 0
	for range 1500 {
		h := drawnHeap(&n)
		hurt(&n, &h)
		want, words := modelShape(h)
		wantShape(t, "hurt", h, want, words)
		if words < 0 {
			wrong++
		} else {
			right++
		}
		if t.Failed() {
			t.FailNow()
		}
	}
	if right < 100 || wrong < 100 {
		t.Errorf("%d right and %d wrong heaps are too few of a kind", right, wrong)
	}
}

// hurtGraph changes one number of a graph, or one list.
func hurtGraph(n *numbers, g *impl.Graph) {
	near := []int64{-3, -1, 0, 1, 2, 3, 5, 7, 60, 61, 99, 100, 2001, 3999, 6399, 6401, 1000000000, 1000000001, 2000000000, 2000000001, 2000000002, -2000000000, -2000000002}
	change := func(was int64) int64 {
		switch n.below(5) {
		case 0:
			return farHeapNumbers[n.below(len(farHeapNumbers))]
		case 1:
			return near[n.below(len(near))]
		case 2:
			return ref(int64(n.below(len(g.Nodes) + 2)))
		}
		return was + []int64{-4, -2, -1, 1, 2, 4}[n.below(6)]
	}
	if n.below(8) == 0 || len(g.Nodes) == 0 {
		g.Hash = change(g.Hash)
		return
	}
	x := &g.Nodes[n.below(len(g.Nodes))]
	switch pick := n.below(9); {
	case pick == 0:
		x.Class = change(x.Class)
	case pick == 1:
		x.Hash = change(x.Hash)
	case pick == 2 && len(g.Roots) > 0:
		i := n.below(len(g.Roots))
		g.Roots[i] = change(g.Roots[i])
	case pick == 3:
		g.Roots = append(g.Roots, change(1))
	case pick == 4:
		x.Fields = append(x.Fields, make([]int64, 1+n.below(2)*n.below(61))...)
	case pick == 5:
		y := &g.Nodes[n.below(len(g.Nodes))]
		*x, *y = *y, *x
	case pick == 6:
		g.Nodes = append(g.Nodes, aNode(1, g.Hash-1))
	case len(x.Fields) > 0:
		i := n.below(len(x.Fields))
		x.Fields[i] = change(x.Fields[i])
	}
}

// TestHurtGraphs holds drawn graphs, of which one thing is another, against the model.
func TestHurtGraphs(t *testing.T) {
	n := numbers(65)
	right, wrong := 0, 0
	for range 400 {
		g := drawnGraph(&n)
		for range 10 {
			one := cloneGraph(g)
			hurtGraph(&n, &one)
			if holdsToGraphModel(t, "hurt", one) {
				right++
			} else {
				wrong++
			}
			if t.Failed() {
				t.FailNow()
			}
		}
	}
	if right < 400 || wrong < 400 {
		t.Errorf("%d right and %d wrong graphs are too few of a kind", right, wrong)
	}
}

// TestEveryNumberOfAGraphHurt changes each number of a graph in turn.
func TestEveryNumberOfAGraphHurt(t *testing.T) {
	g := midGraph()
	places := []*int64{&g.Hash}
	for i := range g.Roots {
		places = append(places, &g.Roots[i])
	}
	for i := range g.Nodes {
		places = append(places, &g.Nodes[i].Class, &g.Nodes[i].Hash)
		for k := range g.Nodes[i].Fields {
			places = append(places, &g.Nodes[i].Fields[k])
		}
	}
	for i, place := range places {
		was := *place
		for by := int64(-120); by <= 120; by++ {
			*place = by
			holdsToGraphModel(t, "number "+digits(int64(i))+" is "+digits(by), g)
			*place = was + by
			holdsToGraphModel(t, "number "+digits(int64(i))+" is "+digits(was+by), g)
		}
		*place = was
	}
}

// TestSmallGraphs has one or two nodes: all lists of up to two of five words as roots and as fields of node 0, and some as fields of node 1.
func TestSmallGraphs(t *testing.T) {
	words := []int64{-1, 0, 1, 3, 5}
	lists := [][]int64{nil}
	for _, a := range words {
		lists = append(lists, []int64{a})
		for _, b := range words {
			lists = append(lists, []int64{a, b})
		}
	}
	right := 0
	for _, roots := range lists {
		for _, first := range lists {
			one := aGraph(roots, aNode(1, 2, first...))
			if holdsToGraphModel(t, "one node", one) {
				right++
			}
			for _, second := range [][]int64{nil, {-1}, {0}, {1}, {3}, {5}, {3, 1}} {
				if holdsToGraphModel(t, "two nodes", aGraph(roots, aNode(1, 2, first...), aNode(0, 1, second...))) {
					right++
				}
			}
			if t.Failed() {
				t.FailNow()
			}
		}
	}
	if right < 100 {
		t.Errorf("%d right graphs are few", right)
	}
}
