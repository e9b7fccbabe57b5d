package tests

import (
	"slices"

	"loop.example/g00140/impl"
)

// modelShape says the chapter again by lists alone; the zero Graph and -1 for a heap that is not right.
func modelShape(h impl.Heap) (impl.Graph, int64) {
	if _, is := modelObjects(h); !is {
		return impl.Graph{}, -1
	}
	var come []int64
	told := func(words []int64) []int64 {
		var out []int64
		for _, w := range words {
			if w%2 == 0 {
				out = append(out, w)
				continue
			}
			if !slices.Contains(come, (w-1)/2) {
				come = append(come, (w-1)/2)
			}
			out = append(out, 2*int64(slices.Index(come, (w-1)/2))+1)
		}
		return out
	}
	g, words := impl.Graph{Roots: told(h.Roots), Hash: h.Hash}, int64(0)
	for i := 0; i < len(come); i++ {
		head := h.Words[come[i] : come[i]+4]
		g.Nodes = append(g.Nodes, aNode(head[1], head[2], told(h.Words[come[i]+4:come[i]+4+head[0]])...))
		words += 4 + head[0]
	}
	return g, words
}

// modelGraphOk says one by one what the chapter asks of a graph.
func modelGraphOk(g impl.Graph) bool {
	if !between(1, g.Hash, 1000000000) || len(g.Roots) > 20 {
		return false
	}
	var hashes []int64
	words := 0
	for _, x := range g.Nodes {
		if !between(0, x.Class, 99) || !between(1, x.Hash, g.Hash-1) || len(x.Fields) > 60 || slices.Contains(hashes, x.Hash) {
			return false
		}
		hashes = append(hashes, x.Hash)
		words += 4 + len(x.Fields)
	}
	return words <= 2000 && modelNumbered(g)
}

// modelNumbered says whether every word is one, and the nodes are come to in the order of their numbers.
func modelNumbered(g impl.Graph) bool {
	come := int64(0)
	takes := func(words []int64) bool {
		for _, w := range words {
			if w%2 == 0 {
				if !between(-2000000000, w, 2000000000) {
					return false
				}
				continue
			}
			if w < 0 || (w-1)/2 > come || (w-1)/2 >= int64(len(g.Nodes)) {
				return false
			}
			come = max(come, (w+1)/2)
		}
		return true
	}
	if !takes(g.Roots) {
		return false
	}
	for i, x := range g.Nodes {
		if come <= int64(i) || !takes(x.Fields) {
			return false
		}
	}
	return true
}

// modelBuild is the heap of a right graph.
func modelBuild(g impl.Graph) impl.Heap {
	var at []int64
	end := int64(0)
	for _, x := range g.Nodes {
		at = append(at, end)
		end += 4 + int64(len(x.Fields))
	}
	laid := func(words []int64) []int64 {
		var out []int64
		for _, w := range words {
			if w%2 != 0 {
				w = ref(at[(w-1)/2])
			}
			out = append(out, w)
		}
		return out
	}
	var old []thing
	for _, x := range g.Nodes {
		old = append(old, aThing(x.Class, x.Hash, 0, laid(x.Fields)...))
	}
	h := laidHeap(false, old, nil, nil)
	h.Roots, h.Hash = laid(g.Roots), g.Hash
	return h
}

// drawnGraph is a right graph that the numbers pick: a word may lead to a node that was come to, or to the next one.
func drawnGraph(n *numbers) impl.Graph {
	most, come := n.below(61), 0
	limit := 2000 / (4 + most) // so many nodes have room, whatever their fields
	draw := func(most int) []int64 {
		out := make([]int64, n.below(most+1))
		for i := range out {
			switch pick := n.below(4); {
			case pick == 0 && come < limit:
				out[i] = ref(int64(come))
				come++
			case pick < 2 && come > 0:
				out[i] = ref(int64(n.below(come)))
			default:
				out[i] = num(int64(n.below(2000000001)) - 1000000000)
			}
		}
		return out
	}
	g, hash := impl.Graph{Roots: draw(20)}, int64(1)
	for len(g.Nodes) < come {
		g.Nodes = append(g.Nodes, aNode(int64(n.below(100)), hash, draw(most)...))
		hash += int64(1 + n.below(3))
	}
	g.Hash = hash + int64(n.below(3))
	return shuffledHashes(n, g)
}

// shuffledHashes gives the hashes of a graph to other nodes.
func shuffledHashes(n *numbers, g impl.Graph) impl.Graph {
	for i := range g.Nodes {
		k := n.below(i + 1)
		g.Nodes[i].Hash, g.Nodes[k].Hash = g.Nodes[k].Hash, g.Nodes[i].Hash
	}
	return g
}
