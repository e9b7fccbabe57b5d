package tests

import (
	"regexp"
	"slices"
	"strconv"
	"strings"
	"testing"

	"loop.example/g00140/impl"
)

func lineOf(numbers ...int64) string {
	text := ""
	for i, n := range numbers {
		if i > 0 {
			text += " "
		}
		text += digits(n)
	}
	return text + "\n"
}

// modelText says the chapter again, number by number.
func modelText(v impl.Vm) string {
	g, _ := modelShape(v.Heap)
	text := lineOf(v.Pc, v.State, v.Heap.Hash)
	text += lineOf(append([]int64{int64(len(v.Out))}, v.Out...)...)
	for _, x := range g.Nodes {
		text += lineOf(append([]int64{x.Class, x.Hash}, x.Fields...)...)
	}
	return text
}

// inPieces cuts a text as pages are cut.
func inPieces(text string) []string { return cutBy(text, 200) }

func cutBy(text string, size int) []string {
	var out []string
	for i := 0; i < len(text); i += size {
		out = append(out, text[i:min(i+size, len(text))])
	}
	return out
}

func modelFreeze(v impl.Vm) ([]string, bool) {
	if !modelVmOk(v) || len(modelText(v)) > 6000 {
		return nil, false
	}
	return inPieces(modelText(v)), true
}

var imageForm = regexp.MustCompile(`^(?:(?:0|-?[1-9][0-9]{0,9})(?: (?:0|-?[1-9][0-9]{0,9}))*\n)*$`)

// modelThaw says the chapter again, by an expression for the form and by what each line must have.
func modelThaw(bodies []string, codes []impl.Code) (impl.Vm, bool) {
	text := strings.Join(bodies, "")
	if len(bodies) > 30 || !slices.Equal(bodies, inPieces(text)) || !imageForm.MatchString(text) {
		return impl.Vm{}, false
	}
	var rows [][]int64
	for _, line := range strings.Split(strings.TrimSuffix(text, "\n"), "\n") {
		var row []int64
		for _, word := range strings.Fields(line) {
			n, _ := strconv.ParseInt(word, 10, 64)
			row = append(row, n)
		}
		rows = append(rows, row)
	}
	if len(rows) < 2 || len(rows[0]) != 3 || rows[1][0] != int64(len(rows[1])-1) {
		return impl.Vm{}, false
	}
	g := impl.Graph{Roots: []int64{1, 3}, Hash: rows[0][2]}
	for _, row := range rows[2:] {
		if len(row) < 2 {
			return impl.Vm{}, false
		}
		g.Nodes = append(g.Nodes, aNode(row[0], row[1], row[2:]...))
	}
	if !modelGraphOk(g) {
		return impl.Vm{}, false
	}
	v := impl.Vm{Heap: modelBuild(g), Program: codes, Pc: rows[0][0], State: rows[0][1], Out: rows[1][1:]}
	if !modelVmOk(v) {
		return impl.Vm{}, false
	}
	return v, true
}

// frozen is what Thaw should make of the machine's pages: all old, in the order of their numbers, with no age.
func frozen(v impl.Vm) impl.Vm {
	g, _ := modelShape(v.Heap)
	v = cloneVm(v)
	v.Heap = modelBuild(g)
	return v
}

// wantFrozen fails unless the machine's pages are just this text, cut, and are thawed to that machine.
func wantFrozen(t *testing.T, name string, v impl.Vm, text string) {
	t.Helper()
	defer noPanic(t, name)
	bodies, is := impl.Freeze(v)
	if !is || strings.Join(bodies, "") != text || !slices.Equal(bodies, inPieces(text)) {
		t.Fatalf("%s: Freeze says %v: %q, not %q", name, is, bodies, inPieces(text))
	}
	if model, is := modelFreeze(v); !is || !slices.Equal(model, bodies) {
		t.Fatalf("%s: the model has it %v: %q", name, is, model)
	}
	wantThawed(t, name, bodies, v.Program, frozen(v))
}

// wantKeptBack fails unless the machine's pages are just this text, cut, and are thawed to none: its objects have pages, but no room in the old space.
func wantKeptBack(t *testing.T, name string, v impl.Vm) {
	t.Helper()
	defer noPanic(t, name)
	want, _ := modelFreeze(v)
	if bodies, is := impl.Freeze(v); !is || !slices.Equal(bodies, want) {
		t.Fatalf("%s: Freeze says %v: %q, not %q", name, is, bodies, want)
	}
	wantNotThawed(t, name, want, v.Program)
	wantNotRestarted(t, name, mustSave(t, impl.NewDisk(), v), v.Program)
}

// holdsToFreeze tells what becomes of a right machine, as the model has it.
func holdsToFreeze(t *testing.T, name string, v impl.Vm) string {
	t.Helper()
	_, words := modelShape(v.Heap)
	switch {
	case len(modelText(v)) > 6000:
		wantNotFrozen(t, name, v)
		return "not frozen"
	case words > 2000:
		wantKeptBack(t, name, v)
		return "kept back"
	}
	wantFrozen(t, name, v, modelText(v))
	return "thawed"
}

// wantNotFrozen fails unless every function refuses the machine.
func wantNotFrozen(t *testing.T, name string, v impl.Vm) {
	t.Helper()
	defer noPanic(t, name)
	if bodies, is := impl.Freeze(v); is || len(bodies) != 0 {
		t.Errorf("%s: Freeze says %v: %q", name, is, bodies)
	}
	if d, is := impl.Save(impl.NewDisk(), v); is || !isZeroDisk(d) {
		t.Errorf("%s: Save says %v", name, is)
	}
	for _, done := range []int64{-1, 0, 1, 40} {
		if !isZeroDisk(impl.SaveCut(impl.NewDisk(), v, done, allTrue(40), -1)) {
			t.Errorf("%s: SaveCut with done %d is not the zero Disk", name, done)
		}
	}
}

// wantThawed fails unless the bodies, alone and as the pages of a disk, come to just this machine, which is frozen as they are.
func wantThawed(t *testing.T, name string, bodies []string, codes []impl.Code, want impl.Vm) {
	t.Helper()
	defer noPanic(t, name)
	v, is := impl.Thaw(bodies, codes)
	if !is || !sameVm(v, want) || !impl.VmOk(v) {
		t.Fatalf("%s: Thaw says %v: %s, not %s", name, is, vmText(v), vmText(want))
	}
	if again, is := impl.Freeze(v); !is || !slices.Equal(again, bodies) {
		t.Errorf("%s: frozen again it is %v: %q, not %q", name, is, again, bodies)
	}
	if model, is := modelThaw(bodies, codes); !is || !sameVm(model, want) {
		t.Errorf("%s: the model has it %v: %s, not %s", name, is, vmText(model), vmText(want))
	}
	wantRestarted(t, name, mustCommit(t, impl.NewDisk(), bodies...), codes, want)
}

// wantNotThawed fails unless the bodies, alone and as the pages of a disk where they can be, come to no machine.
func wantNotThawed(t *testing.T, name string, bodies []string, codes []impl.Code) {
	t.Helper()
	defer noPanic(t, name)
	if v, is := impl.Thaw(bodies, codes); is || !isZeroVm(v) {
		t.Errorf("%s: Thaw says %v: %s", name, is, vmText(v))
	}
	if v, is := modelThaw(bodies, codes); is {
		t.Errorf("%s: the model takes it: %s", name, vmText(v))
	}
	if d, is := impl.Commit(impl.NewDisk(), bodies); is {
		wantNotRestarted(t, name, d, codes)
	}
}

// holdsToThaw tells whether there is a machine, which must be the model's.
func holdsToThaw(t *testing.T, name string, bodies []string, codes []impl.Code) bool {
	t.Helper()
	want, is := modelThaw(bodies, codes)
	if is {
		wantThawed(t, name, bodies, codes, want)
	} else {
		wantNotThawed(t, name, bodies, codes)
	}
	return is
}

func wantRestarted(t *testing.T, name string, d impl.Disk, codes []impl.Code, want impl.Vm) {
	t.Helper()
	if v, is := impl.Restart(d, codes); !is || !sameVm(v, want) || !impl.VmOk(v) {
		t.Errorf("%s: Restart says %v: %s, not %s", name, is, vmText(v), vmText(want))
	}
}

func wantNotRestarted(t *testing.T, name string, d impl.Disk, codes []impl.Code) {
	t.Helper()
	if v, is := impl.Restart(d, codes); is || !isZeroVm(v) {
		t.Errorf("%s: Restart says %v: %s", name, is, vmText(v))
	}
}

func mustFreeze(t *testing.T, v impl.Vm) []string {
	t.Helper()
	bodies, is := impl.Freeze(v)
	if !is {
		t.Fatalf("it is not frozen: %s", vmText(v))
	}
	return bodies
}

func mustSave(t *testing.T, d impl.Disk, v impl.Vm) impl.Disk {
	t.Helper()
	out, is := impl.Save(d, v)
	if !is {
		t.Fatalf("it is not saved: %s", vmText(v))
	}
	return out
}

// graphVm is a machine at Pc 0 of these nodes, which come behind its stack and globals: the first ten globals lead to the first ten of them.
func graphVm(words []int64, codes []impl.Code, nodes ...impl.Node) impl.Vm {
	g := aGraph([]int64{1, 3}, aNode(1, 1, stackThing(1, 0, words...).fields...), aNode(2, 2, make([]int64, 10)...))
	for i := range min(10, len(nodes)) {
		g.Nodes[1].Fields[i] = ref(int64(i) + 2)
	}
	g = aGraph(g.Roots, append(g.Nodes, nodes...)...)
	return impl.Vm{Heap: modelBuild(g), Program: codes}
}

// sizedVm has a text of just so many bytes, and up to ten nodes whose fields are numbers.
func sizedVm(t *testing.T, nodes int, bytes int) impl.Vm {
	t.Helper()
	all := make([]impl.Node, nodes)
	for i := range all {
		all[i] = aNode(3, int64(i)+3)
	}
	left := bytes - len(modelText(graphVm(nil, nil, all...)))
	for i := 0; left > 0; i++ {
		take := min(12, left)
		if left-take == 1 {
			take--
		}
		n := int64(-2000000000)
		if take < 12 {
			n, _ = strconv.ParseInt("2"+strings.Repeat("0", take-2), 10, 64)
		}
		all[i/60].Fields = append(all[i/60].Fields, n)
		left -= take
	}
	v := graphVm(nil, program("halt", "dup"), all...)
	if len(modelText(v)) != bytes || !modelVmOk(v) {
		t.Fatalf("the test's own machine has %d bytes, not %d", len(modelText(v)), bytes)
	}
	return v
}
