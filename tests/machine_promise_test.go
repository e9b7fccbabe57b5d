package tests

import (
	"slices"
	"testing"

	"loop.example/g00140/impl"
)

// drawnLoop is a program that is not stuck soon: it keeps in mind what is on the stack, and jumps back when nothing is.
// Globals 0 to 4 are numbers, 5 to 9 objects of 3 fields: a number and two objects.
type drawnLoop struct {
	n     *numbers
	codes []impl.Code
	kinds []byte // what is on the stack: n for a number, o for an object
}

func drawnLoopOf(n *numbers) []impl.Code {
	d := &drawnLoop{n: n}
	for g := range int64(5) {
		d.add(4, 3)
		for range 2 * min(g, 1) {
			d.add(12, 0)
			d.add(2, 5)
			d.add(6, 1+int64(n.below(2)))
		}
		d.add(3, 5+g)
	}
	first := len(d.codes)
	for len(d.codes) < 70 {
		d.one()
	}
	for range d.kinds {
		d.add(13, 0)
	}
	d.add(10, int64(first))
	return d.codes
}

func (d *drawnLoop) add(op int64, n int64) { d.codes = append(d.codes, impl.Code{Op: op, N: n}) }

// swapKinds takes what is popped off, which must be of these kinds, and puts what is pushed.
func (d *drawnLoop) swapKinds(popped string, pushed string) bool {
	left := len(d.kinds) - len(popped)
	if left < 0 || string(d.kinds[left:]) != popped || left+len(pushed) > 25 {
		return false
	}
	d.kinds = append(d.kinds[:left], pushed...)
	return true
}

func (d *drawnLoop) one() {
	global := int64(d.n.below(5))
	does := func(popped string, pushed string, op int64, n int64) {
		if d.swapKinds(popped, pushed) {
			d.add(op, n)
		}
	}
	switch d.n.below(22) {
	case 0:
		does("", "n", 1, int64(d.n.below(9))-4)
	case 1:
		does("", "n", 2, global)
	case 2, 3:
		does("", "o", 2, 5+global)
	case 4:
		does("n", "", 3, global)
	case 5:
		does("o", "", 3, 5+global)
	case 6:
		d.fresh()
	case 7, 8:
		d.add(4, int64(d.n.below(61)))
		d.add(13, 0)
	case 9:
		does("o", "n", 5, 0)
	case 10:
		does("on", "", 6, 0)
	case 11, 12:
		does("oo", "", 6, 1+int64(d.n.below(2)))
	case 13:
		does("nn", "n", 7+int64(d.n.below(3)), 0)
	case 14:
		does("n", "", 11, int64(len(d.codes))+1)
	case 15:
		does("n", "nn", 12, 0)
		does("o", "oo", 12, 0)
	case 16:
		does("on", "no", 17, 0)
		does("no", "on", 17, 0)
	case 17:
		does("n", "", 14, 0)
	case 18:
		does("o", "n", 15, 0)
	case 19, 20:
		does("oo", "", 18, 0)
	case 21:
		d.called()
	}
}

// fresh makes an object that has two others.
func (d *drawnLoop) fresh() {
	if !d.swapKinds("", "o") {
		return
	}
	d.add(4, 3)
	for i := range int64(2) {
		d.add(12, 0)
		d.add(2, 5+int64(d.n.below(5)))
		d.add(6, 1+i)
	}
}

// called calls the Code behind the next one, and comes back to go on behind that.
func (d *drawnLoop) called() {
	at := int64(len(d.codes))
	d.add(19, at+2)
	d.add(10, at+3)
	d.add(20, 0)
}

// drawnVms are new machines with programs of all kinds: long ones, drawn loops, and Codes that are drawn without a thought.
func drawnVms(t *testing.T, n *numbers, loops int, wild int) []impl.Vm {
	var out []impl.Vm
	for _, p := range longPrograms() {
		out = append(out, mustNewVm(t, p.codes))
	}
	for range loops {
		out = append(out, mustNewVm(t, drawnLoopOf(n)))
	}
	for range wild {
		out = append(out, mustNewVm(t, wildProgram(n)))
	}
	return out
}

// wildProgram has many Codes that push, and jumps to anywhere near.
func wildProgram(n *numbers) []impl.Code {
	count := 1 + n.below(100)
	codes := drawnProgram(n, count)
	for i, c := range codes {
		switch pick := n.below(6); {
		case pick == 0:
			codes[i] = impl.Code{Op: 4, N: int64(n.below(4))}
		case pick == 1:
			codes[i] = impl.Code{Op: 1, N: int64(n.below(5)) - 1}
		case pick == 2:
			codes[i] = impl.Code{Op: 2, N: int64(n.below(3))}
		case c.Op == 5 || c.Op == 6:
			codes[i].N = int64(n.below(3))
		case c.Op == 3:
			codes[i].N = int64(n.below(3))
		case c.Op == 10 || c.Op == 11 || c.Op == 19:
			codes[i].N = int64(n.below(count + 2))
			if codes[i].N > 100 {
				codes[i].N = 100
			}
		case c.Op == 16 && n.below(3) > 0:
			codes[i] = impl.Code{Op: 12}
		}
	}
	return codes
}

// TestMachinesHoldToTheModel goes on tick by tick: each machine is right, and as the model has it, to the last word.
func TestMachinesHoldToTheModel(t *testing.T) {
	n := numbers(156)
	states, ops := map[int64]int{}, map[int64]int{}
	for i, v := range drawnVms(t, &n, 25, 200) {
		for tick := range []int{1300, 400}[min(i/7, 1)] {
			if v.Pc < int64(len(v.Program)) {
				ops[v.Program[v.Pc].Op]++
			}
			got, want := impl.Tick(v), modelStep(v)
			if !sameVm(got, want) || !impl.VmOk(got) || tick%50 == 0 && !modelVmOk(got) {
				t.Fatalf("tick %d: it is %s, not %s, and was %s", tick, vmText(got), vmText(want), vmText(v))
			}
			v = got
			if v.State != 0 {
				break
			}
		}
		states[v.State]++
	}
	for state, least := range map[int64]int{0: 20, 1: 3, 2: 50, 3: 1} {
		if states[state] < least {
			t.Errorf("%d machines come to State %d", states[state], state)
		}
	}
	for op := int64(1); op <= 20; op++ {
		if least := map[bool]int{true: 3, false: 50}[op == impl.CdHalt]; ops[op] < least {
			t.Errorf("Op %d was done %d times", op, ops[op])
		}
	}
}

// TestDeepTicksHoldToTheModel has machines of drawn stacks in worlds of all sites, each Code of the ends.
func TestDeepTicksHoldToTheModel(t *testing.T) {
	n := numbers(157)
	states := map[int64]int{}
	for range 60 {
		for _, c := range endCodes() {
			s := allSites()[n.below(18)]
			all := s.allKinds()
			words := deep(n.below(40))
			for i := range words {
				words[i] = all[n.below(len(all))]
			}
			v := s.world(words, c)
			got, want := impl.Tick(v), modelStep(v)
			if !sameVm(got, want) || !impl.VmOk(got) {
				t.Fatalf("%v: it is %s, not %s, and was %s", c, vmText(got), vmText(want), vmText(v))
			}
			states[got.State]++
		}
	}
	if states[0] < 1000 || states[2] < 1000 {
		t.Errorf("%v: too few of a kind", states)
	}
}

// isDream fails unless the machine is right, and is what it would be without a heap.
func isDream(t *testing.T, name string, v impl.Vm, d *dream) {
	t.Helper()
	if !impl.VmOk(v) {
		t.Fatalf("%s: it is not right: %s", name, vmText(v))
	}
	if v.Pc != d.pc || v.State != d.state || !slices.Equal(v.Out, d.out) {
		t.Fatalf("%s: it is %s, not at Pc %d in State %d with %v", name, vmText(v), d.pc, d.state, d.out)
	}
	if g, want := impl.Shape(v.Heap), d.graph(); !alike(g, want) {
		t.Fatalf("%s: its graph is %v, not %v", name, g, want)
	}
}

// TestWhenItIsCollectedDoesNotShow collects at drawn ticks, or at each of them, and holds the machine against one that has no heap and no collector.
func TestWhenItIsCollectedDoesNotShow(t *testing.T) {
	n := numbers(158)
	collected, without, full := 0, 0, 0
	for i, v := range drawnVms(t, &n, 20, 40) {
		d := newDream(v.Program)
		often := []int{1, 2, 10, 100}[i%4]
		for tick := range []int{1300, 500}[min(i/7, 1)] {
			if n.below(often) == 0 {
				then, is := impl.Collect(v, n.below(3) == 0)
				if is {
					v = then
					collected++
				} else {
					without++
				}
			}
			v = impl.Tick(v)
			if v.State == 3 && len(v.Out) < 300 {
				full++
				break
			}
			d.tick()
			if v.State != d.state || tick%7 == 0 || v.State != 0 {
				isDream(t, "tick "+digits(int64(tick)), v, d)
			}
			if v.State != 0 {
				break
			}
		}
	}
	if collected < 3000 || full < 1 {
		t.Errorf("%d collections, %d without room, %d full heaps", collected, without, full)
	}
}

// TestCollectedAtEachTick collects once, at each tick in turn, and goes on to the same output, State and graph.
func TestCollectedAtEachTick(t *testing.T) {
	n := numbers(159)
	done := 0
	for _, v := range drawnVms(t, &n, 3, 6) {
		total := int64(200)
		end := impl.RunVm(v, total)
		d := newDream(v.Program)
		for range total {
			d.tick()
		}
		isDream(t, "not collected", end, d)
		at := v
		for tick := range total {
			for _, full := range []bool{false, true} {
				then, is := impl.Collect(at, full)
				if !is {
					t.Fatalf("tick %d: there is no room: %s", tick, vmText(at))
				}
				wantSameEnd(t, "tick "+digits(tick), impl.RunVm(then, total-tick), end)
				done++
			}
			at = impl.Tick(at)
		}
	}
	if done < 3000 {
		t.Errorf("%d collections are few", done)
	}
}

// wantSameEnd fails unless both come to the same output, State, Pc and graph.
func wantSameEnd(t *testing.T, name string, got impl.Vm, want impl.Vm) {
	t.Helper()
	if got.State != want.State || got.Pc != want.Pc || !slices.Equal(got.Out, want.Out) || !slices.Equal(got.Program, want.Program) {
		t.Fatalf("%s: it is %s, not %s", name, vmText(got), vmText(want))
	}
	if a, b := impl.Shape(got.Heap), impl.Shape(want.Heap); !impl.SameGraph(a, b) || !impl.VmOk(got) {
		t.Fatalf("%s: its graph is %v, not %v", name, a, b)
	}
}

// TestLongRunsCollectedInBetween goes on for 20000 ticks, with a collection now and then, or with none.
func TestLongRunsCollectedInBetween(t *testing.T) {
	n := numbers(160)
	for _, p := range longPrograms()[:6] {
		first, second := mustNewVm(t, p.codes), mustNewVm(t, p.codes)
		for range 10 {
			first = impl.RunVm(first, 2000)
			for left := 2000; left > 0; {
				ticks := min(left, n.below(300))
				second = impl.RunVm(second, int64(ticks))
				left -= ticks
				then, is := impl.Collect(second, n.below(2) == 0)
				if !is {
					t.Fatalf("%s: there is no room: %s", p.name, vmText(second))
				}
				second = then
			}
			wantSameEnd(t, p.name, second, first)
		}
	}
}
