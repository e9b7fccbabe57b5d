package tests

import (
	"slices"
	"sync"
	"testing"

	"loop.example/g00140/impl"
)

// roomyVm is the machine with marked spare room behind each of its lists.
func roomyVm(v impl.Vm) impl.Vm {
	v.Heap, v.Out = roomyHeap(v.Heap), roomyList(v.Out)
	v.Program = roomyCodes(v.Program)
	return v
}

func roomyCodes(codes []impl.Code) []impl.Code {
	return slices.Concat(codes, slices.Repeat([]impl.Code{{Op: 77, N: 77}}, spare))[:len(codes)]
}

// wantSameRoomyVm fails unless v, and the spare room behind its lists, is as roomyVm(was) was made.
func wantSameRoomyVm(t *testing.T, name string, v impl.Vm, was impl.Vm) {
	t.Helper()
	wantSameHeap(t, name, v.Heap, was.Heap)
	if !sameVm(v, was) {
		t.Errorf("%s: an argument was changed", name)
	}
	if !slices.Equal(v.Out[len(v.Out):len(v.Out)+spare], slices.Repeat([]int64{77}, spare)) {
		t.Errorf("%s: %v behind Out", name, v.Out[len(v.Out):len(v.Out)+spare])
	}
	wantRoomyCodes(t, name, v.Program)
}

func wantRoomyCodes(t *testing.T, name string, codes []impl.Code) {
	t.Helper()
	for _, c := range codes[len(codes) : len(codes)+spare] {
		if c != (impl.Code{Op: 77, N: 77}) {
			t.Errorf("%s: %v behind the program", name, c)
		}
	}
}

func vmPieces(v impl.Vm) []piece {
	return append(heapPieces(v.Heap), pieceOf(v.Program), pieceOf(v.Out))
}

// scribbleVm writes over all that a machine has, and over its spare room.
func scribbleVm(v impl.Vm) {
	scribbleHeap(v.Heap)
	scribbleList(v.Out)
	scribbleCodes(v.Program)
}

type vmCall struct {
	name string
	call func(v impl.Vm) impl.Vm
}

func vmCalls() []vmCall {
	ran := func(n int64) func(impl.Vm) impl.Vm {
		return func(v impl.Vm) impl.Vm { return impl.RunVm(v, n) }
	}
	collected := func(full bool) func(impl.Vm) impl.Vm {
		return func(v impl.Vm) impl.Vm {
			out, _ := impl.Collect(v, full)
			return out
		}
	}
	return []vmCall{
		{"VmOk", func(v impl.Vm) impl.Vm { impl.VmOk(v); return impl.Vm{} }},
		{"Tick", impl.Tick},
		{"RunVm of 0", ran(0)}, {"RunVm of 1", ran(1)}, {"RunVm of 2", ran(2)}, {"RunVm of 40", ran(40)}, {"RunVm of 2000", ran(2000)}, {"RunVm of -1", ran(-1)}, {"RunVm of 2001", ran(2001)},
		{"Collect", collected(false)}, {"Collect with full", collected(true)},
		{"Result", func(v impl.Vm) impl.Vm {
			out, state := impl.Result(v)
			return impl.Vm{Out: out, State: state}
		}},
	}
}

// memoryVms are right machines, each about to do a Code of its own, machines that have run for a while, and wrong ones.
func memoryVms(t *testing.T) []namedVm {
	n := numbers(161)
	var out []namedVm
	for i, c := range endCodes() {
		s := allSites()[i%18]
		out = append(out, namedVm{"one Code", s.world([]int64{0, ref(oldTwo), ref(youngOf)}, c, c)}, namedVm{"one Code", s.world([]int64{num(1), ref(oldTwo), 0, num(1)}, c, c)})
	}
	for _, p := range longPrograms() {
		for _, ticks := range []int64{0, 1, 30, 150, 1500} {
			out = append(out, namedVm{p.name, impl.RunVm(mustNewVm(t, p.codes), ticks)})
		}
	}
	out = append(out, namedVm{"no program", mustNewVm(t, nil)}, namedVm{"Out 299", site{}.outs(299, num(1), num(2))}, namedVm{"Out 300", site{}.outs(300, num(1))}, namedVm{"no room", linkedVm(true, 1942, nil, "new 0")})
	for i := range 12 {
		right := rightVms()
		out = append(out, right[n.below(len(right))], namedVm{"a loop", impl.RunVm(mustNewVm(t, drawnLoopOf(&n)), int64(i*i))})
	}
	parted, stacks, rests := wrongParted(site{}), wrongStacks(site{true, 1, 2}), wrongRests(site{})
	return slices.Concat(out, parted[:12], stacks[:8], stacks[100:104], rests[:4], rests[50:60], []namedVm{{"the zero Vm", impl.Vm{}}})
}

func TestMachineArgumentsStay(t *testing.T) {
	for _, c := range memoryVms(t) {
		for _, f := range vmCalls() {
			v := roomyVm(c.vm)
			out := f.call(v)
			wantSameRoomyVm(t, f.name+", "+c.name, v, c.vm)
			wantApart(t, f.name+", "+c.name, slices.Concat(vmPieces(v), vmPieces(out))...)
			scribbleVm(out)
			wantSameRoomyVm(t, f.name+", scribbled, "+c.name, v, c.vm)
		}
	}
}

func TestMachineAnswersAreNewMemory(t *testing.T) {
	for _, c := range memoryVms(t) {
		for _, f := range vmCalls() {
			v := roomyVm(c.vm)
			first, second := f.call(v), f.call(v)
			was := cloneVm(first)
			wantApart(t, "two answers of "+f.name+", "+c.name, slices.Concat(vmPieces(first), vmPieces(second))...)
			scribbleVm(second)
			if !sameVm(first, was) {
				t.Errorf("%s, %s: two answers share memory", f.name, c.name)
			}
			scribbleVm(v)
			if !sameVm(first, was) {
				t.Errorf("%s, %s: the answer changed with the argument", f.name, c.name)
			}
		}
	}
}

func TestNewMachinesAreNewMemory(t *testing.T) {
	n := numbers(162)
	for _, count := range []int{0, 1, 50, 100, 101} {
		codes := drawnProgram(&n, count)
		given := roomyCodes(codes)
		first, _ := impl.NewVm(given)
		second, _ := impl.NewVm(given)
		was := cloneVm(first)
		wantApart(t, "NewVm", slices.Concat(vmPieces(first), vmPieces(second), []piece{pieceOf(given)})...)
		scribbleVm(second)
		if !sameVm(first, was) || !slices.Equal(given, codes) {
			t.Errorf("%d Codes: two answers share memory", count)
		}
		wantRoomyCodes(t, "NewVm", given)
		scribbleCodes(given)
		if !sameVm(first, was) {
			t.Errorf("%d Codes: the answer changed with the argument", count)
		}
	}
}

// TestMachinesOfOneList has arguments of which Roots, Kept and Out are pieces of the words: those of an answer are not.
func TestMachinesOfOneList(t *testing.T) {
	shared := func(line string) impl.Vm {
		// The words 4 and 5 are the two roots, 6 is what is kept, and the first number of Out.
		first := aThing(3, 5, 0, ref(9), ref(2000), 0, num(7), num(8))
		v := vmOf(laidHeap(false, []thing{first, stackThing(1, 3)}, []thing{globalsThing(2, 0)}, nil), 9, 2000, program(line, line)...)
		v.Heap.Roots, v.Heap.Kept, v.Out = v.Heap.Words[4:6], v.Heap.Words[6:7], v.Heap.Words[6:9]
		return v
	}
	for _, line := range []string{"push 5", "load 0", "new 3", "halt", "jump 0", "call 0", "drop"} {
		v := shared(line)
		if !impl.VmOk(v) {
			t.Fatalf("it is not right: %s", vmText(v))
		}
		for _, f := range vmCalls() {
			v := shared(line)
			out, want := f.call(v), f.call(cloneVm(shared(line)))
			if !sameVm(v, shared(line)) || !sameVm(out, want) {
				t.Errorf("%s, %s: a machine of one list is another one", f.name, line)
			}
			wantApart(t, f.name, append(vmPieces(out), pieceOf(v.Heap.Words))...)
		}
	}
}

// TestListsOfAMachineShareNothing appends to each list of an answer: it must not come to be another one's.
func TestListsOfAMachineShareNothing(t *testing.T) {
	for _, c := range memoryVms(t) {
		for _, f := range vmCalls() {
			v := f.call(c.vm)
			was := cloneVm(v)
			roots, kept, words, out := append(v.Heap.Roots, 5), append(v.Heap.Kept, 6), append(v.Heap.Words, 7), append(v.Out, 8)
			codes := append(v.Program, impl.Code{Op: 9})
			if !sameVm(v, was) || roots[len(v.Heap.Roots)] != 5 || kept[len(v.Heap.Kept)] != 6 || words[len(v.Heap.Words)] != 7 || out[len(v.Out)] != 8 || codes[len(v.Program)].Op != 9 {
				t.Errorf("%s, %s: two lists share spare room", f.name, c.name)
			}
		}
	}
}

// TestMachinesHangOnTheArgumentsAlone asks of one machine, of others, and of the first one again; and of one that is alike, but with spare room.
func TestMachinesHangOnTheArgumentsAlone(t *testing.T) {
	list := longPrograms()[0].codes
	between := impl.RunVm(mustNewVm(t, list), 50)
	for _, c := range memoryVms(t) {
		for _, f := range vmCalls() {
			before := f.call(c.vm)
			if got := impl.RunVm(mustNewVm(t, list), 50); !sameVm(got, between) {
				t.Fatalf("another one between: %s", vmText(got))
			}
			if !sameVm(f.call(c.vm), before) || !sameVm(f.call(roomyVm(c.vm)), before) {
				t.Errorf("%s, %s: it is another one now", f.name, c.name)
			}
		}
	}
}

func TestMachinesAskedByManyAtOnce(t *testing.T) {
	vms := memoryVms(t)[:60]
	var want []impl.Vm
	for _, c := range vms {
		want = append(want, impl.RunVm(c.vm, 100))
	}
	var all sync.WaitGroup
	for range 8 {
		all.Go(func() {
			for i, c := range vms {
				if got := impl.RunVm(c.vm, 100); !sameVm(got, want[i]) {
					t.Errorf("%s: it is another one", c.name)
				}
			}
		})
	}
	all.Wait()
}
