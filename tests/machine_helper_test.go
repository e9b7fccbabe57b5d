package tests

import (
	"slices"
	"strings"
	"testing"

	"loop.example/g00140/impl"
)

// program is the Codes of these lines, which must be right ones.
func program(lines ...string) []impl.Code {
	codes, bad := modelProgram(strings.Join(lines, "\n") + "\n")
	if bad != -1 {
		panic("no Code: " + lines[bad])
	}
	return codes
}

func mustNewVm(t *testing.T, codes []impl.Code) impl.Vm {
	t.Helper()
	v, is := impl.NewVm(codes)
	if !is || !impl.VmOk(v) {
		t.Fatalf("NewVm of %d Codes says %v", len(codes), is)
	}
	return v
}

func cloneVm(v impl.Vm) impl.Vm {
	v.Heap, v.Program, v.Out = cloneHeap(v.Heap), slices.Clone(v.Program), slices.Clone(v.Out)
	return v
}

func sameVm(a impl.Vm, b impl.Vm) bool {
	return sameHeap(a.Heap, b.Heap) && slices.Equal(a.Program, b.Program) && a.Pc == b.Pc && slices.Equal(a.Out, b.Out) && a.State == b.State
}

func isZeroVm(v impl.Vm) bool { return sameVm(v, impl.Vm{}) }

// vmText is a machine in short.
func vmText(v impl.Vm) string {
	if isZeroVm(v) {
		return "the zero Vm"
	}
	text := "Pc " + digits(v.Pc) + " of " + digits(int64(len(v.Program))) + ", State " + digits(v.State) + ", Out"
	for _, n := range v.Out[max(0, len(v.Out)-5):] {
		text += " " + digits(n)
	}
	if impl.HeapOk(v.Heap) && len(v.Heap.Roots) == 2 {
		text += "; stack"
		for i := range int64(40) {
			w, _ := impl.Get(v.Heap, v.Heap.Roots[0], i)
			text += " " + digits(w)
		}
	}
	return text + "; " + heapText(v.Heap)
}

// stackThing and globalsThing are the two objects of a machine, to be laid down.
func stackThing(hash int64, age int64, words ...int64) thing {
	fields := make([]int64, 40)
	fields[0] = num(int64(len(words)))
	copy(fields[1:], words)
	return aThing(1, hash, age, fields...)
}

func globalsThing(hash int64, age int64, words ...int64) thing {
	fields := make([]int64, 10)
	copy(fields, words)
	return aThing(2, hash, age, fields...)
}

// vmOf is a machine at Pc 0 in a laid heap whose stack and globals are at these addresses; Kept is told.
func vmOf(h impl.Heap, stack int64, globals int64, codes ...impl.Code) impl.Vm {
	return impl.Vm{Heap: ended(h, ref(stack), ref(globals)), Program: codes}
}

// site is where the two objects of a machine lie: 0 in the old space, 1 in eden, 2 among the survivors.
type site struct {
	flip    bool
	stack   int
	globals int
}

func allSites() []site {
	var out []site
	for i := range 18 {
		out = append(out, site{i%2 == 1, i / 2 % 3, i / 6})
	}
	return out
}

func (s site) name() string {
	spaces := []string{"old", "eden", "survivors"}
	if s.flip {
		spaces[2] = "the other survivors"
	}
	return "stack in " + spaces[s.stack] + ", globals in " + spaces[s.globals]
}

// what lies in a world, whatever its site.
const (
	oldTwo  = 0    // class 3, hash 10, two fields: 5 and the object oldBare
	oldBare = 6    // class 3, hash 11, no field
	oldFour = 10   // class 4, hash 12, two fields
	youngOf = 2000 // class 3, hash 20, three fields: 7, the object oldTwo, 0
	youngFi = 2007 // class 5, hash 21, one field
)

// places are the addresses of what lies in a world by its site: the survivor (class 3, hash 30, one field: 9), the stack and the globals.
func (s site) places() (int64, int64, int64) {
	base := int64(2600)
	if s.flip {
		base = 2900
	}
	ends := []int64{16, 2012, base + 5}
	stack := ends[s.stack]
	ends[s.stack] += 44
	return base, stack, ends[s.globals]
}

// world is a machine at Pc 0 with these words on its stack. Its globals are 100, 101, the object oldTwo, youngOf, the survivor, the stack, the globals, 107, 0, -109.
func (s site) world(words []int64, codes ...impl.Code) impl.Vm {
	base, stack, globals := s.places()
	spaces := [][]thing{
		{aThing(3, 10, 3, num(5), ref(oldBare)), aThing(3, 11, 4), aThing(4, 12, 5, num(1), num(2))},
		{aThing(3, 20, 0, num(7), ref(oldTwo), 0), aThing(5, 21, 0, num(3))},
		{aThing(3, 30, 1, num(9))},
	}
	spaces[s.stack] = append(spaces[s.stack], stackThing(40, 1, words...))
	spaces[s.globals] = append(spaces[s.globals], globalsThing(41, 1, s.globalWords(base, stack, globals)...))
	v := vmOf(laidHeap(s.flip, spaces[0], spaces[1], spaces[2]), stack, globals, codes...)
	v.Out = []int64{-4, 1000000000}
	return v
}

func (s site) globalWords(base int64, stack int64, globals int64) []int64 {
	return []int64{num(100), num(101), ref(oldTwo), ref(youngOf), ref(base), ref(stack), ref(globals), num(107), 0, num(-109)}
}

// withStack is the machine with these words on its stack.
func withStack(v impl.Vm, words ...int64) impl.Vm {
	v = cloneVm(v)
	at := (v.Heap.Roots[0] - 1) / 2
	lay(v.Heap.Words, at, []thing{stackThing(v.Heap.Words[at+2], v.Heap.Words[at+3], words...)})
	v.Heap.Kept = modelKept(v.Heap)
	return v
}

// withField is the machine in which one field of the object at an address is another word.
func withField(v impl.Vm, at int64, i int64, w int64) impl.Vm {
	v = cloneVm(v)
	v.Heap.Words[at+4+i] = w
	v.Heap.Kept = modelKept(v.Heap)
	return v
}

func withPc(v impl.Vm, pc int64) impl.Vm {
	v = cloneVm(v)
	v.Pc = pc
	return v
}

func withState(v impl.Vm, state int64) impl.Vm {
	v = cloneVm(v)
	v.State = state
	return v
}

// deep are so many words, no two alike, all of them numbers.
func deep(count int) []int64 {
	out := make([]int64, count)
	for i := range out {
		out[i] = num(int64(1000 + i))
	}
	return out
}

// behind is a list with more words on top.
func behind(list []int64, words ...int64) []int64 { return slices.Concat(list, words) }

// wantTick fails unless both machines are right and the first one is the second one behind a tick.
func wantTick(t *testing.T, name string, v impl.Vm, want impl.Vm) {
	t.Helper()
	defer noPanic(t, name)
	if !impl.VmOk(v) || !impl.VmOk(want) {
		t.Fatalf("%s: the test's own machines are not right: %s; %s", name, vmText(v), vmText(want))
	}
	was := cloneVm(v)
	if got := impl.Tick(v); !sameVm(got, want) {
		t.Errorf("%s: it is\n%s, not\n%s", name, vmText(got), vmText(want))
	}
	if got := impl.RunVm(v, 1); !sameVm(got, want) {
		t.Errorf("%s: run for a tick it is %s, not %s", name, vmText(got), vmText(want))
	}
	if model := modelTick(v); !sameVm(model, want) {
		t.Errorf("%s: the model has it\n%s, not\n%s", name, vmText(model), vmText(want))
	}
	if !sameVm(v, was) {
		t.Errorf("%s: the argument was changed", name)
	}
}

// wantDone fails unless the Code leaves these words on the stack, Pc 1 more, and all else as it was.
func wantDone(t *testing.T, name string, v impl.Vm, words ...int64) {
	t.Helper()
	wantTick(t, name, v, withPc(withStack(v, words...), v.Pc+1))
}

// wantStuck and wantFull fail unless the State alone is another one.
func wantStuck(t *testing.T, name string, v impl.Vm) {
	t.Helper()
	wantTick(t, name+", stuck", v, withState(v, 2))
}

func wantFull(t *testing.T, name string, v impl.Vm) {
	t.Helper()
	wantTick(t, name+", full", v, withState(v, 3))
}

// wantWrongVm fails unless every function gives the answer that is fixed for a machine that is not right.
func wantWrongVm(t *testing.T, name string, v impl.Vm) {
	t.Helper()
	defer noPanic(t, name)
	if impl.VmOk(v) {
		t.Errorf("%s: VmOk", name)
	}
	if got := impl.Tick(v); !isZeroVm(got) {
		t.Errorf("%s: a tick later it is %s", name, vmText(got))
	}
	for _, n := range []int64{-1, 0, 1, 2000, 2001} {
		if got := impl.RunVm(v, n); !isZeroVm(got) {
			t.Errorf("%s: %d ticks later it is %s", name, n, vmText(got))
		}
	}
	for _, full := range []bool{false, true} {
		wantNotCollected(t, name, v, full)
	}
	if out, state := impl.Result(v); len(out) != 0 || state != -1 {
		t.Errorf("%s: the result is %v, %d", name, out, state)
	}
}

func wantNotCollected(t *testing.T, name string, v impl.Vm, full bool) {
	t.Helper()
	if got, is := impl.Collect(v, full); is || !isZeroVm(got) {
		t.Errorf("%s: collected, full %v, it says %v: %s", name, full, is, vmText(got))
	}
}

// wantResult fails unless the machine is right and this is told of it.
func wantResult(t *testing.T, name string, v impl.Vm, out []int64, state int64) {
	t.Helper()
	if !impl.VmOk(v) {
		t.Errorf("%s: it is not right: %s", name, vmText(v))
	}
	if got, is := impl.Result(v); !slices.Equal(got, out) || is != state {
		t.Errorf("%s: the result is %v, %d, not %v, %d", name, got, is, out, state)
	}
}
