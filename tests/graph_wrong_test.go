package tests

import (
	"slices"
	"testing"

	"loop.example/g00140/impl"
)

// changedGraph is midGraph with one thing changed.
func changedGraph(change func(g *impl.Graph)) impl.Graph {
	g := midGraph()
	change(&g)
	return g
}

// wrongGraphWords are no words of a graph of five nodes.
func wrongGraphWords() []int64 {
	out := []int64{2000000002, 2000000001, 1999999999, -2000000002, -1999999999, -1, -3, 11, 13, 31, 101, 3999, 4001, 5201, 6399, 6401, 6403}
	return append(out, 1<<32, 1<<32+1, 1<<32+3, 1<<33+1, -1<<63, -1<<63+1, 1<<63-1, 1<<62+1)
}

// wrongLinks are graphs with a word that is none, or an odd word of a node that is not there, at each place that a word may have.
func wrongLinks() []namedGraph {
	var out []namedGraph
	for _, w := range wrongGraphWords() {
		for i := range midGraph().Roots {
			out = append(out, namedGraph{"root " + digits(int64(i)) + " is " + digits(w), changedGraph(func(g *impl.Graph) { g.Roots[i] = w })})
		}
		for i, x := range midGraph().Nodes {
			for k := range x.Fields {
				name := "field " + digits(int64(k)) + " of node " + digits(int64(i)) + " is " + digits(w)
				out = append(out, namedGraph{name, changedGraph(func(g *impl.Graph) { g.Nodes[i].Fields[k] = w })})
			}
		}
		more := changedGraph(func(g *impl.Graph) { g.Roots = append(g.Roots, w) })
		last := changedGraph(func(g *impl.Graph) { g.Nodes[3].Fields = []int64{w} })
		out = append(out, namedGraph{"one more root " + digits(w), more}, namedGraph{"one more field " + digits(w), last})
	}
	lone := impl.Graph{Roots: []int64{1}, Hash: 1}
	next := aGraph([]int64{1}, aNode(1, 1, 3))
	return append(out, namedGraph{"node 0 of none", lone}, namedGraph{"node 1 of one", next})
}

// wrongNodes are graphs in which a class, a hash or a count of fields is out of range.
func wrongNodes() []namedGraph {
	var out []namedGraph
	for i := range midGraph().Nodes {
		which := " of node " + digits(int64(i))
		for _, class := range append([]int64{100, 101, 256}, farHeapNumbers...) {
			out = append(out, namedGraph{"class " + digits(class) + which, changedGraph(func(g *impl.Graph) { g.Nodes[i].Class = class })})
		}
		for _, hash := range append([]int64{0, 13, 14, 1000000000, 1000000001}, farHeapNumbers...) {
			out = append(out, namedGraph{"hash " + digits(hash) + which, changedGraph(func(g *impl.Graph) { g.Nodes[i].Hash = hash })})
		}
		for _, size := range []int{61, 62, 64, 100, 256, 1974, 2000, 70000} {
			name := digits(int64(size)) + " fields" + which
			out = append(out, namedGraph{name, changedGraph(func(g *impl.Graph) {
				g.Nodes[i].Fields = append(g.Nodes[i].Fields, make([]int64, size-len(g.Nodes[i].Fields))...)
			})})
		}
		for k := range midGraph().Nodes[:i] {
			out = append(out, namedGraph{"the hash of node " + digits(int64(k)) + which, changedGraph(func(g *impl.Graph) { g.Nodes[i].Hash = g.Nodes[k].Hash })})
		}
	}
	nought := impl.Graph{Roots: []int64{1}, Nodes: []impl.Node{{}}, Hash: 9}
	return append(out, namedGraph{"a node of noughts", nought}, namedGraph{"61 fields of one node", aGraph([]int64{1}, aNode(1, 1, make([]int64, 61)...))})
}

// wrongGraphHashes are graphs whose Hash is out of range, or not above a node's.
func wrongGraphHashes() []namedGraph {
	var out []namedGraph
	for _, hash := range append([]int64{0, 1, 2, 10, 11, 1000000001, 1000000002, 2000000000}, farHeapNumbers...) {
		out = append(out, namedGraph{"Hash " + digits(hash), changedGraph(func(g *impl.Graph) { g.Hash = hash })})
	}
	for _, hash := range append([]int64{0, 1000000001}, farHeapNumbers...) {
		out = append(out, namedGraph{"no node, Hash " + digits(hash), impl.Graph{Hash: hash}},
			namedGraph{"a number, Hash " + digits(hash), impl.Graph{Roots: []int64{8}, Hash: hash}})
	}
	last := aGraph([]int64{1}, aNode(1, 1000000000))
	top := cloneGraph(last)
	top.Hash = 1000000000
	one := impl.Graph{Roots: []int64{1}, Nodes: []impl.Node{aNode(1, 1)}, Hash: 1}
	return append(out, namedGraph{"the hash MaxInt below Hash MaxInt + 1", last}, namedGraph{"the hash MaxInt, Hash MaxInt", top},
		namedGraph{"the hash 1, Hash 1", one}, namedGraph{"the zero Graph", impl.Graph{}})
}

// wrongRootCounts are graphs with more than MaxRoots roots.
func wrongRootCounts() []namedGraph {
	var out []namedGraph
	for _, n := range []int{21, 22, 40, 3200, 100000} {
		out = append(out, namedGraph{digits(int64(n)) + " numbers as roots", impl.Graph{Roots: make([]int64, n), Hash: 1}},
			namedGraph{digits(int64(n)) + " roots of one node", aGraph(slices.Repeat([]int64{1}, n), aNode(1, 1))},
			namedGraph{digits(int64(n)) + " roots of mid", changedGraph(func(g *impl.Graph) { g.Roots = append(g.Roots, make([]int64, n-5)...) })})
	}
	return out
}

// wrongNumbering are graphs with a node that is not reached, or with nodes in another order than they are come to.
func wrongNumbering() []namedGraph {
	a, b, c := aNode(1, 1), aNode(2, 2), aNode(3, 3)
	return []namedGraph{
		{"no root", aGraph(nil, a)},
		{"a number as root", aGraph([]int64{num(0)}, a)},
		{"a node more", changedGraph(func(g *impl.Graph) { g.Nodes = append(g.Nodes, aNode(1, 2)) })},
		{"a node more, to itself", changedGraph(func(g *impl.Graph) { g.Nodes = append(g.Nodes, aNode(1, 2, ref(5))) })},
		{"two nodes more, to each other", changedGraph(func(g *impl.Graph) { g.Nodes = append(g.Nodes, aNode(1, 2, ref(6)), aNode(1, 3, ref(5))) })},
		{"a node more, to another", changedGraph(func(g *impl.Graph) { g.Nodes = append(g.Nodes, aNode(1, 2, 1)) })},
		{"the first one not reached", aGraph([]int64{3}, a, b)},
		{"the one between not reached", aGraph([]int64{1, 5}, a, b, c)},
		{"reached only by one that is not", aGraph([]int64{1}, a, aNode(2, 2, 5), aNode(3, 3, 3))},
		{"a circle beside", aGraph([]int64{1}, a, aNode(2, 2, 3))},
		{"roots turned round", aGraph([]int64{3, 1}, a, b)},
		{"roots turned round behind the first", aGraph([]int64{1, 5, 3}, a, b, c)},
		{"fields turned round", aGraph([]int64{1}, aNode(1, 1, 5, 3), b, c)},
		{"deep ahead of wide", aGraph([]int64{1}, aNode(1, 1, 3, 7), aNode(2, 2, 5), c, aNode(4, 4))},
		{"a field's node ahead of a root's", aGraph([]int64{1, 5}, aNode(1, 1, 3), b, c)},
		{"fields of node 1 ahead of those of node 0", aGraph([]int64{1, 3}, aNode(1, 1, 7), aNode(2, 2, 5), c, aNode(4, 4))},
		{"a chain from the other end", aGraph([]int64{5}, a, aNode(2, 2, 1), aNode(3, 3, 3))},
		{"the last two of a chain turned round", aGraph([]int64{1}, aNode(1, 1, 5), b, aNode(3, 3, 3))},
		{"mid, its roots turned round", changedGraph(func(g *impl.Graph) { slices.Reverse(g.Roots) })},
		{"mid, a root gone", changedGraph(func(g *impl.Graph) { g.Roots[3] = 0 })},
		{"mid, a field gone", changedGraph(func(g *impl.Graph) { g.Nodes[0].Fields[0] = 0 })},
		{"mid, a node less", changedGraph(func(g *impl.Graph) { g.Nodes = g.Nodes[:4] })},
	}
}

// tooLarge are graphs that need more words than the old space has.
func tooLarge() []namedGraph {
	var out []namedGraph
	for _, words := range []int64{2001, 2002, 2003, 2004, 2005, 2048, 2600, 3200, 3201, 6000, 100000} {
		out = append(out, namedGraph{digits(words) + " words", sizedGraph(words)})
	}
	return append(out, namedGraph{"401 nodes", chainGraph(401, 1)}, namedGraph{"32 nodes of 60 fields", chainGraph(32, 60)}, namedGraph{"100000 nodes", chainGraph(100000, 1)})
}

func wrongGraphs() []namedGraph {
	return slices.Concat(wrongLinks(), wrongNodes(), wrongGraphHashes(), wrongRootCounts(), wrongNumbering(), tooLarge())
}

func TestWrongGraphsHaveFixedAnswers(t *testing.T) {
	for _, c := range wrongGraphs() {
		wantWrongGraph(t, c.name, c.graph)
		if len(c.graph.Nodes) < 2000 && modelGraphOk(c.graph) {
			t.Errorf("%s: the model takes it for a right one", c.name)
		}
	}
}

// TestNearlyWrongGraphs has graphs that are right though they are near to one that is not.
func TestNearlyWrongGraphs(t *testing.T) {
	for _, c := range []namedGraph{
		{"Hash just above", changedGraph(func(g *impl.Graph) { g.Hash = 12 })},
		{"Hash MaxInt", changedGraph(func(g *impl.Graph) { g.Hash = 1000000000 })},
		{"20 roots", changedGraph(func(g *impl.Graph) { g.Roots = append(g.Roots, slices.Repeat([]int64{5}, 15)...) })},
		{"the last node among the roots at the end", changedGraph(func(g *impl.Graph) { g.Roots = append(g.Roots, 7, 9) })},
		{"60 fields", changedGraph(func(g *impl.Graph) { g.Nodes[4].Fields = append(g.Nodes[4].Fields, make([]int64, 58)...) })},
		{"a node more, reached by the last one", changedGraph(func(g *impl.Graph) {
			g.Nodes[4].Fields[1] = 11
			g.Nodes = append(g.Nodes, aNode(1, 2))
		})},
		{"the ends of the numbers", changedGraph(func(g *impl.Graph) { g.Nodes[4].Fields[1], g.Roots[4] = -2000000000, 2000000000 })},
	} {
		wantBuilt(t, c.name, c.graph, modelBuild(c.graph))
	}
}
