package tests

import (
	"strings"
	"testing"

	"loop.example/g00140/impl"
)

// pagesOf are a head and an empty Out with these nodes, right or not; Hash is as low as it may be.
func pagesOf(nodes ...impl.Node) []string {
	g := aGraph(nil, nodes...)
	text := lineOf(0, 0, g.Hash) + "0\n"
	for _, x := range nodes {
		text += lineOf(append([]int64{x.Class, x.Hash}, x.Fields...)...)
	}
	return inPieces(text)
}

func stackNode(hash int64, words ...int64) impl.Node {
	return aNode(1, hash, stackThing(hash, 0, words...).fields...)
}

func globalsNode(hash int64, words ...int64) impl.Node {
	return aNode(2, hash, globalsThing(hash, 0, words...).fields...)
}

// wantNodes fails unless there is a machine of these nodes; wantNoNodes unless there is none.
func wantNodes(t *testing.T, name string, nodes ...impl.Node) {
	t.Helper()
	v := impl.Vm{Heap: modelBuild(aGraph([]int64{1, 3}, nodes...)), Program: program("dup")}
	wantThawed(t, name, pagesOf(nodes...), v.Program, v)
}

func wantNoNodes(t *testing.T, name string, nodes ...impl.Node) {
	t.Helper()
	wantNotThawed(t, name, pagesOf(nodes...), program("dup"))
}

// TestThawOfStacksAndGlobals has others than a right machine has.
func TestThawOfStacksAndGlobals(t *testing.T) {
	s, g := stackNode(1), globalsNode(2)
	wantNodes(t, "the two", s, g)
	wantNodes(t, "with other hashes", stackNode(7), globalsNode(3))
	wantNoNodes(t, "no node")
	wantNoNodes(t, "the stack alone", s)
	wantNoNodes(t, "the globals alone", g)
	wantNoNodes(t, "turned round", globalsNode(1), stackNode(2))
	wantNoNodes(t, "two stacks", s, stackNode(2))
	wantNoNodes(t, "two globals", globalsNode(1), g)
	wantNoNodes(t, "the stack is also where the globals are", stackNode(1, ref(0)), stackNode(2))
	for class := int64(-1); class <= 101; class++ {
		if class != 1 {
			wantNoNodes(t, "the stack of class "+digits(class), aNode(class, 1, s.Fields...), g)
		}
		if class != 2 {
			wantNoNodes(t, "the globals of class "+digits(class), s, aNode(class, 2, g.Fields...))
		}
	}
	for size := range 66 {
		fields := make([]int64, size)
		if size != 40 {
			wantNoNodes(t, "a stack of "+digits(int64(size)), aNode(1, 1, fields...), g)
		}
		if size != 10 {
			wantNoNodes(t, "globals of "+digits(int64(size)), s, aNode(2, 2, fields...))
		}
	}
	for depth := int64(-3); depth <= 42; depth++ {
		fields := make([]int64, 40)
		fields[0] = num(depth)
		if between(0, depth, 39) {
			wantNodes(t, "depth "+digits(depth), aNode(1, 1, fields...), g)
		} else {
			wantNoNodes(t, "depth "+digits(depth), aNode(1, 1, fields...), g)
		}
		for at := int64(1); at < 40; at += 6 {
			other := append([]int64{}, fields...)
			other[at] = num(5)
			if between(at, depth, 39) {
				wantNodes(t, "a word within the depth", aNode(1, 1, other...), g)
			} else {
				wantNoNodes(t, "a word beyond the depth", aNode(1, 1, other...), g)
			}
		}
	}
	for _, w := range []int64{1, 3, 5, -1} {
		fields := make([]int64, 40)
		fields[0] = w
		wantNoNodes(t, "the depth is no number", aNode(1, 1, fields...), g)
	}
}

// TestThawOfLinks has words that lead to each node, and to nodes that there are not.
func TestThawOfLinks(t *testing.T) {
	s := stackNode(1)
	for _, w := range []int64{1, 3} {
		wantNodes(t, "no other node", stackNode(1, w), globalsNode(2, w, w))
	}
	for _, w := range []int64{5, 7, 9, 101, 4001, 6399, 6401, -1, -3, 1 << 32, 1<<32 + 1, 2000000001, 9999999999} {
		wantNoNodes(t, "a node that is not there", s, globalsNode(2, w))
		wantNoNodes(t, "a node that is not there, on the stack", stackNode(1, w), globalsNode(2))
		wantNoNodes(t, "a node that is not there, behind one", s, globalsNode(2, 5), aNode(3, 3, max(w, 7)))
	}
	for _, w := range []int64{2000000002, -2000000002, 4000000000, -9999999998} {
		wantNoNodes(t, "no word", s, globalsNode(2, w))
		wantNoNodes(t, "no word on the stack", stackNode(1, w), globalsNode(2))
		wantNoNodes(t, "no word behind", s, globalsNode(2, 5), aNode(3, 3, w))
	}
	for _, w := range []int64{2000000000, -2000000000} {
		wantNodes(t, "a number at the end", stackNode(1, w), globalsNode(2, 5, w), aNode(3, 3, w))
	}
	wantNodes(t, "a row", s, globalsNode(2, 5), aNode(3, 3, 7), aNode(3, 4, 9), aNode(3, 5))
	wantNodes(t, "a row round", s, globalsNode(2, 5), aNode(3, 3, 7), aNode(3, 4, 9), aNode(3, 5, 1, 3, 5, 7, 9))
	wantNodes(t, "from the stack first", stackNode(1, 5), globalsNode(2, 7, 5), aNode(3, 3), aNode(3, 4))
}

// TestThawOfNodesInAnotherOrder has the nodes of a graph otherwise than Shape numbers them, with words that fit.
func TestThawOfNodesInAnotherOrder(t *testing.T) {
	s := stackNode(1)
	wantNodes(t, "in order", s, globalsNode(2, 5, 7), aNode(3, 3), aNode(3, 4))
	wantNoNodes(t, "the second one first", s, globalsNode(2, 7, 5), aNode(3, 4), aNode(3, 3))
	wantNoNodes(t, "one that nothing leads to", s, globalsNode(2), aNode(3, 3))
	wantNoNodes(t, "one that nothing leads to, behind", s, globalsNode(2, 5), aNode(3, 3), aNode(3, 4))
	wantNoNodes(t, "one that nothing leads to, between", s, globalsNode(2, 7), aNode(3, 3), aNode(3, 4))
	wantNoNodes(t, "one that it alone leads to", s, globalsNode(2, 0), aNode(3, 3, 5))
	wantNoNodes(t, "two that lead to each other alone", s, globalsNode(2), aNode(3, 3, 7), aNode(3, 4, 5))
	wantNoNodes(t, "from the globals first", stackNode(1, 7), globalsNode(2, 5, 7), aNode(3, 3), aNode(3, 4))
	wantNoNodes(t, "from below first", s, globalsNode(2, 5, 9), aNode(3, 3, 7), aNode(3, 4), aNode(3, 5))
	wantNodes(t, "from above first", s, globalsNode(2, 5, 7), aNode(3, 3, 9), aNode(3, 4), aNode(3, 5))
	wantNoNodes(t, "the stack behind", globalsNode(2, 5), aNode(3, 3), stackNode(1))
	v := pagedVm()
	lines := linesOfPages(v)
	for i := 2; i < len(lines); i++ {
		for k := 2; k < i; k++ {
			bodies := withLine(withoutEnd(withLine(lines, i, lines[k])), k, lines[i])
			// Two lines that lead on to nothing new may be turned round: it is another machine then.
			if holdsToThaw(t, "lines "+digits(int64(i))+" and "+digits(int64(k))+" turned round", bodies, v.Program) && k < 4 {
				t.Errorf("lines %d and %d turned round are thawed", i, k)
			}
			wantNotThawed(t, "one line for another", withLine(lines, i, lines[k]), v.Program)
		}
		// What led to it leads to the next one now, which may be a machine, too.
		holdsToThaw(t, "a line left out", withLine(lines, i), v.Program)
		wantNotThawed(t, "a line twice", withLine(lines, i, lines[i], lines[i]), v.Program)
		wantNotThawed(t, "an empty line ahead", withLine(lines, i, "", lines[i]), v.Program)
		wantNotThawed(t, "an empty line for it", withLine(lines, i, ""), v.Program)
		words := strings.Split(lines[i], " ")
		wantNotThawed(t, "the class alone", withLine(lines, i, words[0]), v.Program)
		wantNotThawed(t, "in two lines", withLine(lines, i, words[0], strings.Join(words[1:], " ")), v.Program)
	}
}

// withoutEnd are the lines of pages.
func withoutEnd(bodies []string) []string {
	return strings.Split(strings.TrimSuffix(strings.Join(bodies, ""), "\n"), "\n")
}

// TestThawOfNodesAtTheirLimits has classes, hashes and sizes at both ends, and beyond them.
func TestThawOfNodesAtTheirLimits(t *testing.T) {
	s, g := stackNode(1), globalsNode(2, 5)
	for class := int64(-2); class <= 102; class++ {
		if between(0, class, 99) {
			wantNodes(t, "class "+digits(class), s, g, aNode(class, 3))
		} else {
			wantNoNodes(t, "class "+digits(class), s, g, aNode(class, 3))
		}
	}
	for size := range 63 {
		if size <= 60 {
			wantNodes(t, "size "+digits(int64(size)), s, g, aNode(3, 3, make([]int64, size)...))
		} else {
			wantNoNodes(t, "size "+digits(int64(size)), s, g, aNode(3, 3, make([]int64, size)...))
		}
	}
	for _, hash := range []int64{3, 4, 100, 999999999} {
		wantNodes(t, "hash "+digits(hash), s, g, aNode(3, hash))
	}
	for _, hash := range []int64{-1, 0, 1, 2, 1000000000, 1000000001, 9999999999} {
		wantNoNodes(t, "hash "+digits(hash), s, g, aNode(3, hash))
	}
	wantNoNodes(t, "two hashes alike", s, globalsNode(2, 5, 7), aNode(3, 3), aNode(3, 3))
	wantNoNodes(t, "the hash of both alike", s, globalsNode(1))
	for _, far := range farHeapNumbers {
		wantNoNodes(t, "class "+digits(far), s, g, aNode(far, 3))
		if !between(-2000000000, far, 2000000000) {
			wantNoNodes(t, "a field "+digits(far), s, g, aNode(3, 3, far))
		}
		if far < 0 {
			wantNoNodes(t, "hash "+digits(far), s, g, aNode(3, far))
		}
	}
}

// TestThawOfNodesThatFillTheOldSpace takes just its 2000 words, and some more.
func TestThawOfNodesThatFillTheOldSpace(t *testing.T) {
	for words := int64(1990); words <= 2010; words++ {
		nodes := []impl.Node{stackNode(1), globalsNode(2, 5)}
		left := words - 58
		for left > 0 {
			size := min(60, left-4)
			if rest := left - 4 - size; rest > 0 && rest < 5 {
				size -= 5
			}
			nodes = append(nodes, aNode(3, int64(len(nodes))+1, make([]int64, size)...))
			left -= 4 + size
		}
		for i := 2; i < len(nodes)-1; i++ {
			nodes[i].Fields[0] = ref(int64(i) + 1)
		}
		if words <= 2000 {
			wantNodes(t, digits(words)+" words", nodes...)
		} else {
			wantNoNodes(t, digits(words)+" words", nodes...)
		}
	}
}

// TestThawKnowsNoAgesAndNoAddresses has one machine in all places, young and old: its pages are the same.
func TestThawKnowsNoAgesAndNoAddresses(t *testing.T) {
	bodies := map[string]bool{}
	for _, s := range allSites() {
		v := s.world([]int64{ref(youngOf)}, program("dup")...)
		bodies[strings.Join(mustFreeze(t, v), "")] = true
		for range 4 {
			v, _ = impl.Collect(v, false)
			bodies[strings.Join(mustFreeze(t, v), "")] = true
		}
		v, _ = impl.Collect(v, true)
		bodies[strings.Join(mustFreeze(t, v), "")] = true
	}
	if len(bodies) != 1 {
		t.Errorf("%d texts of one machine", len(bodies))
	}
}
