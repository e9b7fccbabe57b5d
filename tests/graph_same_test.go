package tests

import (
	"slices"
	"testing"

	"loop.example/g00140/impl"
)

// wantSame asks both ways round.
func wantSame(t *testing.T, name string, a impl.Graph, b impl.Graph, want bool) {
	t.Helper()
	if impl.SameGraph(a, b) != want || impl.SameGraph(b, a) != want {
		t.Errorf("%s: SameGraph is not %v", name, want)
	}
}

// otherGraphs differ from g at one place each: every number is another one, and every list is longer, shorter, or in another order.
func otherGraphs(g impl.Graph) []namedGraph {
	var out []namedGraph
	add := func(name string, change func(g *impl.Graph)) {
		one := cloneGraph(g)
		change(&one)
		out = append(out, namedGraph{name, one})
	}
	for _, by := range []int64{1, -1, 2, 256, 1 << 32, -1 << 63} {
		say := " and " + digits(by)
		add("Hash"+say, func(g *impl.Graph) { g.Hash += by })
		for i := range g.Roots {
			add("root "+digits(int64(i))+say, func(g *impl.Graph) { g.Roots[i] += by })
		}
		for i, x := range g.Nodes {
			at := " of node " + digits(int64(i)) + say
			add("the class"+at, func(g *impl.Graph) { g.Nodes[i].Class += by })
			add("the hash"+at, func(g *impl.Graph) { g.Nodes[i].Hash += by })
			for k := range x.Fields {
				add("field "+digits(int64(k))+at, func(g *impl.Graph) { g.Nodes[i].Fields[k] += by })
			}
		}
	}
	add("a root more", func(g *impl.Graph) { g.Roots = append(g.Roots, 0) })
	add("a root more ahead", func(g *impl.Graph) { g.Roots = slices.Insert(g.Roots, 0, 0) })
	add("a node more", func(g *impl.Graph) { g.Nodes = append(g.Nodes, impl.Node{}) })
	add("a node more ahead", func(g *impl.Graph) { g.Nodes = slices.Insert(g.Nodes, 0, impl.Node{}) })
	for i, x := range g.Nodes {
		add("a field more", func(g *impl.Graph) { g.Nodes[i].Fields = append(g.Nodes[i].Fields, 0) })
		add("a node less", func(g *impl.Graph) { g.Nodes = slices.Delete(g.Nodes, i, i+1) })
		if len(x.Fields) > 0 {
			add("a field less", func(g *impl.Graph) { g.Nodes[i].Fields = x.Fields[:len(x.Fields)-1] })
			add("no field", func(g *impl.Graph) { g.Nodes[i].Fields = nil })
		}
		if i > 0 {
			add("two nodes turned round", func(g *impl.Graph) { g.Nodes[i], g.Nodes[i-1] = g.Nodes[i-1], g.Nodes[i] })
		}
	}
	for i := range g.Roots {
		add("a root less", func(g *impl.Graph) { g.Roots = slices.Delete(g.Roots, i, i+1) })
	}
	return out
}

func TestGraphsAlike(t *testing.T) {
	for _, c := range slices.Concat(rightGraphs(), wrongNumbering(), wrongGraphHashes(), wrongNodes()) {
		wantSame(t, c.name, c.graph, cloneGraph(c.graph), true)
		wantSame(t, c.name+", itself", c.graph, c.graph, true)
	}
	empty := impl.Graph{Roots: []int64{}, Nodes: []impl.Node{}}
	wantSame(t, "nil and empty lists", impl.Graph{}, empty, true)
	wantSame(t, "nil and empty fields", impl.Graph{Nodes: []impl.Node{{}}}, impl.Graph{Nodes: []impl.Node{{Fields: []int64{}}}}, true)
}

// TestGraphsThatDifferAtOnePlace has right graphs and others, at each place.
func TestGraphsThatDifferAtOnePlace(t *testing.T) {
	n := numbers(61)
	graphs := []impl.Graph{{}, {Hash: 1}, midGraph(), chainGraph(6, 3), aGraph([]int64{1, -4}, aNode(-1<<63, 1<<63-1, -1<<63, 1<<63-1))}
	for range 5 {
		graphs = append(graphs, drawnGraph(&n))
	}
	for _, g := range graphs {
		if len(g.Nodes) > 40 {
			continue
		}
		for _, c := range otherGraphs(g) {
			if alike(g, c.graph) {
				t.Fatalf("%s: it is no other one", c.name)
			}
			wantSame(t, c.name, g, c.graph, false)
		}
	}
}

// TestNumbersDoNotRunTogether has graphs whose numbers, written one behind the other, are the same.
func TestNumbersDoNotRunTogether(t *testing.T) {
	for _, c := range []struct{ a, b impl.Graph }{
		{impl.Graph{Nodes: []impl.Node{aNode(1, 23)}}, impl.Graph{Nodes: []impl.Node{aNode(12, 3)}}},
		{impl.Graph{Nodes: []impl.Node{aNode(1, 2, 34)}}, impl.Graph{Nodes: []impl.Node{aNode(1, 2, 3, 4)}}},
		{impl.Graph{Nodes: []impl.Node{aNode(1, 2, 3, 4)}}, impl.Graph{Nodes: []impl.Node{aNode(1, 2), aNode(3, 4)}}},
		{impl.Graph{Nodes: []impl.Node{aNode(1, 2, 3), aNode(4, 5)}}, impl.Graph{Nodes: []impl.Node{aNode(1, 2), aNode(3, 4, 5)}}},
		{impl.Graph{Nodes: []impl.Node{aNode(1, 2, -3)}}, impl.Graph{Nodes: []impl.Node{aNode(1, 2, 3)}}},
		{impl.Graph{Roots: []int64{1, 2}}, impl.Graph{Nodes: []impl.Node{aNode(1, 2)}}},
		{impl.Graph{Roots: []int64{12}}, impl.Graph{Roots: []int64{1, 2}}},
		{impl.Graph{Roots: []int64{1}}, impl.Graph{Hash: 1}},
	} {
		wantSame(t, "run together", c.a, c.b, false)
	}
}
