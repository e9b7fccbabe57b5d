package tests

import (
	"slices"
	"strings"
	"testing"

	"loop.example/g00140/impl"
)

// noughts are so many fields that are 0, each with a blank ahead.
func noughts(n int) string { return strings.Repeat(" 0", n) }

const newText = "0 0 3\n0\n"

// TestFreezeOfNewMachines has every byte written out.
func TestFreezeOfNewMachines(t *testing.T) {
	text := newText + "1 1" + noughts(40) + "\n2 2" + noughts(10) + "\n"
	n := numbers(170)
	for _, count := range []int{0, 1, 50, 100} {
		wantFrozen(t, "a new machine", mustNewVm(t, drawnProgram(&n, count)), text)
	}
	if bodies := mustFreeze(t, mustNewVm(t, nil)); len(bodies) != 1 || bodies[0] != text {
		t.Errorf("%q", bodies)
	}
}

// TestFreezesWritten has machines that ran, with their texts written out.
func TestFreezesWritten(t *testing.T) {
	codes := program("new 2", "dup", "push -5", "set 1", "dup", "dup", "set 0", "new 0", "new 0", "drop", "save 3", "push 8", "push -9", "print", "print")
	text := []string{
		"0 0 3\n0\n1 1" + noughts(40) + "\n2 2" + noughts(10) + "\n",
		"1 0 4\n0\n1 1 2 5" + noughts(38) + "\n2 2" + noughts(10) + "\n3 3 0 0\n",
		"2 0 4\n0\n1 1 4 5 5" + noughts(37) + "\n2 2" + noughts(10) + "\n3 3 0 0\n",
		"3 0 4\n0\n1 1 6 5 5 -10" + noughts(36) + "\n2 2" + noughts(10) + "\n3 3 0 0\n",
		"4 0 4\n0\n1 1 2 5" + noughts(38) + "\n2 2" + noughts(10) + "\n3 3 0 -10\n",
		"5 0 4\n0\n1 1 4 5 5" + noughts(37) + "\n2 2" + noughts(10) + "\n3 3 0 -10\n",
		"6 0 4\n0\n1 1 6 5 5 5" + noughts(36) + "\n2 2" + noughts(10) + "\n3 3 0 -10\n",
		"7 0 4\n0\n1 1 2 5" + noughts(38) + "\n2 2" + noughts(10) + "\n3 3 5 -10\n",
		"8 0 5\n0\n1 1 4 5 7" + noughts(37) + "\n2 2" + noughts(10) + "\n3 3 5 -10\n3 4\n",
		"9 0 6\n0\n1 1 6 5 7 9" + noughts(36) + "\n2 2" + noughts(10) + "\n3 3 5 -10\n3 4\n3 5\n",
		"10 0 6\n0\n1 1 4 5 7" + noughts(37) + "\n2 2" + noughts(10) + "\n3 3 5 -10\n3 4\n", // the last one is reached no more
		"11 0 6\n0\n1 1 2 5" + noughts(38) + "\n2 2 0 0 0 7" + noughts(6) + "\n3 3 5 -10\n3 4\n",
		"12 0 6\n0\n1 1 4 5 16" + noughts(37) + "\n2 2 0 0 0 7" + noughts(6) + "\n3 3 5 -10\n3 4\n",
		"13 0 6\n0\n1 1 6 5 16 -18" + noughts(36) + "\n2 2 0 0 0 7" + noughts(6) + "\n3 3 5 -10\n3 4\n",
		"14 0 6\n1 -9\n1 1 4 5 16" + noughts(37) + "\n2 2 0 0 0 7" + noughts(6) + "\n3 3 5 -10\n3 4\n",
		"15 0 6\n2 -9 8\n1 1 2 5" + noughts(38) + "\n2 2 0 0 0 7" + noughts(6) + "\n3 3 5 -10\n3 4\n",
		"15 1 6\n2 -9 8\n1 1 2 5" + noughts(38) + "\n2 2 0 0 0 7" + noughts(6) + "\n3 3 5 -10\n3 4\n",
	}
	for ticks, want := range text {
		v := impl.RunVm(mustNewVm(t, codes), int64(ticks))
		wantFrozen(t, digits(int64(ticks))+" ticks", v, want)
		for _, full := range []bool{false, true} {
			then, is := impl.Collect(v, full)
			if !is {
				t.Fatal("it is not collected")
			}
			wantFrozen(t, digits(int64(ticks))+" ticks, collected", then, want)
		}
	}
	wantFrozen(t, "stuck", impl.RunVm(mustNewVm(t, program("push 7", "add")), 9), "1 2 3\n0\n1 1 2 14"+noughts(38)+"\n2 2"+noughts(10)+"\n")
	full := "2 3 3\n300" + strings.Repeat(" 6", 300) + "\n1 1 4 12 12" + noughts(37) + "\n2 2" + noughts(10) + "\n"
	wantFrozen(t, "full", impl.RunVm(mustNewVm(t, program("push 6", "dup", "print", "jump 1")), 2000), full)
}

// TestFreezeOfEachState has Out empty, of one number, and full, of both ends, and Pc at both ends.
func TestFreezeOfEachState(t *testing.T) {
	codes := slices.Repeat(program("dup"), 100)
	rest := "1 1" + noughts(40) + "\n2 2" + noughts(10) + "\n"
	for state := range int64(4) {
		for _, pc := range []int64{0, 1, 9, 10, 99, 100} {
			head := digits(pc) + " " + digits(state) + " 3\n"
			for _, c := range []struct {
				out  []int64
				text string
			}{
				{nil, "0"}, {[]int64{}, "0"}, {[]int64{0}, "1 0"}, {[]int64{0, 0}, "2 0 0"}, {[]int64{-1, 10}, "2 -1 10"},
				{[]int64{1000000000}, "1 1000000000"}, {[]int64{-1000000000, 999999999, -999999999}, "3 -1000000000 999999999 -999999999"},
				{slices.Repeat([]int64{1000000000}, 299), "299" + strings.Repeat(" 1000000000", 299)},
				{slices.Repeat([]int64{-1000000000}, 300), "300" + strings.Repeat(" -1000000000", 300)},
				{make([]int64, 300), "300" + noughts(300)},
			} {
				v := withState(withPc(mustNewVm(t, codes), pc), state)
				v.Out = c.out
				wantFrozen(t, "State "+digits(state)+", Pc "+digits(pc), v, head+c.text+"\n"+rest)
			}
		}
	}
}

// TestFreezeOfNodes has nodes with no field and with many, numbers at both ends, and references to each of them.
func TestFreezeOfNodes(t *testing.T) {
	ends := []int64{2000000000, -2000000000, 1999999998, -1999999998, 2, -2, 0}
	many := make([]int64, 60)
	for i := range many {
		many[i] = ref(int64(i % 5))
	}
	v := graphVm([]int64{ref(1), num(1000000000), ref(0)}, program("halt"), aNode(3, 900), aNode(99, 5, many...), aNode(0, 77, ends...))
	v.Heap.Hash = 1000000000
	text := "0 0 1000000000\n0\n1 1 6 3 2000000000 1" + noughts(36) + "\n2 2 5 7 9" + noughts(7) + "\n3 900\n99 5" +
		strings.Repeat(" 1 3 5 7 9", 12) + "\n0 77 2000000000 -2000000000 1999999998 -1999999998 2 -2 0\n"
	// The addresses of the heap are those of the graph here: stack, globals, 900 at 58, 5 at 62, 77 at 126.
	at := []int64{0, 44, 58, 62, 126}
	v.Heap.Words[5], v.Heap.Words[7] = ref(44), ref(0)
	for i := range many {
		v.Heap.Words[66+i] = ref(at[i%5])
	}
	wantFrozen(t, "nodes", v, text)
	v = graphVm(nil, nil, aNode(3, 999999999, make([]int64, 60)...))
	v.Heap.Words[58+4+59] = ref(58)
	wantFrozen(t, "sixty fields, the last one itself", v, "0 0 1000000000\n0\n1 1"+noughts(40)+"\n2 2 5"+noughts(9)+"\n3 999999999"+noughts(59)+" 5\n")
}

// TestFreezeTellsWhatIsReached has all kinds of places, and things that nothing reaches.
func TestFreezeTellsWhatIsReached(t *testing.T) {
	for _, s := range allSites() {
		base, stack, globals := s.places()
		v := s.world([]int64{ref(youngOf), 0, ref(oldFour)}, program("dup", "halt")...)
		text := "0 0 42\n2 -4 1000000000\n1 40 6 5 0 7" + noughts(36) + "\n2 41 200 202 9 5 11 1 3 214 0 -218\n" +
			"3 20 14 9 0\n4 12 2 4\n3 10 10 13\n3 30 18\n3 11\n"
		wantFrozen(t, s.name(), v, text)
		v = withField(withField(v, globals, 4, num(base)), globals, 5, num(stack))
		text = strings.Replace(strings.Replace(text, " 11 1 3 ", " "+digits(2*base)+" "+digits(2*stack)+" 3 ", 1), "3 30 18\n", "", 1)
		wantFrozen(t, s.name()+", the survivor is garbage", v, strings.Replace(text, "3 10 10 13", "3 10 10 11", 1))
	}
}

// TestFreezeHoldsToTheModel has right machines of all limits, and those that drawn programs come to.
func TestFreezeHoldsToTheModel(t *testing.T) {
	for _, c := range rightVms() {
		wantFrozen(t, c.name, c.vm, modelText(c.vm))
	}
	n := numbers(171)
	kinds := map[string]int{}
	for _, v := range drawnVms(t, &n, 20, 60) {
		for range 8 {
			v = impl.RunVm(v, int64(n.below(200)))
			kinds[holdsToFreeze(t, "a drawn machine", v)]++
		}
	}
	if kinds["thawed"] < 500 {
		t.Errorf("%v: too few are thawed", kinds)
	}
}

// TestFreezeTellsMachinesApart changes one thing of a machine: the pages are others.
func TestFreezeTellsMachinesApart(t *testing.T) {
	s := site{false, 0, 1}
	v := s.world([]int64{ref(oldTwo), num(3)}, program("dup", "halt")...)
	_, _, globals := s.places()
	seen := map[string]string{}
	add := func(name string, v impl.Vm) {
		text := strings.Join(mustFreeze(t, v), "")
		if other, had := seen[text]; had {
			t.Errorf("%s and %s have the same pages", name, other)
		}
		seen[text] = name
	}
	add("as it is", v)
	for _, pc := range []int64{1, 2} {
		add("Pc", withPc(v, pc))
	}
	for _, state := range []int64{1, 2, 3} {
		add("State", withState(v, state))
	}
	add("Hash", shifted(v, func(v *impl.Vm) { v.Heap.Hash++ }))
	for i, out := range [][]int64{nil, {-4}, {1000000000}, {1000000000, -4}, {-4, 1000000000, 0}, {4, 1000000000}} {
		add("Out "+digits(int64(i)), shifted(v, func(v *impl.Vm) { v.Out = out }))
	}
	add("the stack", withStack(v, ref(oldTwo), num(4)))
	add("the stack is deeper", withStack(v, ref(oldTwo), num(3), 0))
	add("another class", shifted(v, func(v *impl.Vm) { v.Heap.Words[oldTwo+1] = 4 }))
	add("another hash", shifted(v, func(v *impl.Vm) { v.Heap.Words[oldTwo+2] = 5 }))
	for i := range int64(10) {
		add("global "+digits(i), withField(v, globals, i, num(55)))
		add("global "+digits(i)+", an object", withField(v, globals, i, ref(oldBare)))
	}
}
