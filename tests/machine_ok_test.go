package tests

import (
	"slices"
	"testing"

	"loop.example/g00140/impl"
)

type namedVm struct {
	name string
	vm   impl.Vm
}

// shifted is the machine with one thing changed, and Kept told anew.
func shifted(v impl.Vm, change func(v *impl.Vm)) impl.Vm {
	v = cloneVm(v)
	change(&v)
	v.Heap.Kept = modelKept(v.Heap)
	return v
}

// rightVms are right ones, at the limits of all that a machine may have.
func rightVms() []namedVm {
	var out []namedVm
	n := numbers(153)
	for _, s := range allSites() {
		for _, depth := range []int{0, 1, 20, 38, 39} {
			out = append(out, namedVm{s.name() + ", depth " + digits(int64(depth)), s.world(deep(depth), program("dup", "halt")...)})
		}
		v := s.world([]int64{0, ref(youngOf), 0, ref(oldTwo), 0}, drawnProgram(&n, 100)...)
		for _, pc := range []int64{0, 1, 99, 100} {
			out = append(out, namedVm{s.name() + ", Pc " + digits(pc), withPc(v, pc)})
		}
		for state := range int64(4) {
			out = append(out, namedVm{s.name() + ", State " + digits(state), withState(v, state)})
		}
		for _, count := range []int{0, 1, 299, 300} {
			out = append(out, namedVm{s.name() + ", Out " + digits(int64(count)), shifted(v, func(v *impl.Vm) { v.Out = make([]int64, count) })})
		}
		ends := shifted(v, func(v *impl.Vm) { v.Out = slices.Repeat([]int64{-1000000000, 1000000000}, 150) })
		out = append(out, namedVm{s.name() + ", Out of ends", ends})
		out = append(out, namedVm{s.name() + ", no program", s.world(nil)})
		last := shifted(v, func(v *impl.Vm) { v.Heap.Hash = 1000000000 })
		out = append(out, namedVm{s.name() + ", Hash MaxInt", last})
		_, stack, globals := s.places()
		odd := s.world([]int64{ref(stack), ref(globals), ref(oldFour), ref(youngFi), num(1000000000), num(-1000000000)}, program("add")...)
		out = append(out, namedVm{s.name() + ", all kinds on the stack", odd})
	}
	return out
}

func TestRightMachines(t *testing.T) {
	for _, c := range rightVms() {
		if !impl.VmOk(c.vm) || !modelVmOk(c.vm) {
			t.Errorf("%s: it is not right: %s", c.name, vmText(c.vm))
		}
		wantResult(t, c.name, c.vm, c.vm.Out, c.vm.State)
		wantTick(t, c.name, c.vm, modelTick(c.vm))
		if got := impl.RunVm(c.vm, 0); !sameVm(got, c.vm) {
			t.Errorf("%s: after no tick it is %s", c.name, vmText(got))
		}
	}
}

// wrongParted are machines one of whose two objects is another one than it must be.
func wrongParted(s site) []namedVm {
	v := s.world([]int64{num(1), num(2)}, program("dup", "halt")...)
	base, stack, globals := s.places()
	var out []namedVm
	roots := func(name string, roots ...int64) {
		out = append(out, namedVm{name, shifted(v, func(v *impl.Vm) { v.Heap.Roots = roots })})
	}
	roots("no root")
	roots("the stack alone", ref(stack))
	roots("the globals alone", ref(globals))
	roots("a third root", ref(stack), ref(globals), 0)
	roots("a third root, the stack again", ref(stack), ref(globals), ref(stack))
	roots("twenty roots", slices.Repeat([]int64{ref(stack), ref(globals)}, 10)...)
	roots("the two turned round", ref(globals), ref(stack))
	roots("the stack twice", ref(stack), ref(stack))
	roots("the globals twice", ref(globals), ref(globals))
	for _, w := range []int64{0, num(1), num(stack), num(2000), num(-1000000000), ref(oldTwo), ref(oldBare), ref(oldFour), ref(youngOf), ref(youngFi), ref(base)} {
		roots("the stack is "+digits(w), w, ref(globals))
		roots("the globals are "+digits(w), ref(stack), w)
	}
	for _, class := range []int64{0, 2, 3, 4, 99} {
		out = append(out, namedVm{"the stack's class " + digits(class), shifted(v, func(v *impl.Vm) { v.Heap.Words[stack+1] = class })})
	}
	for _, class := range []int64{0, 1, 3, 4, 99} {
		out = append(out, namedVm{"the globals' class " + digits(class), shifted(v, func(v *impl.Vm) { v.Heap.Words[globals+1] = class })})
	}
	return out
}

// wrongStacks are machines whose depth is none, or with a word above it.
func wrongStacks(s site) []namedVm {
	var out []namedVm
	_, stack, _ := s.places()
	for _, depth := range []int64{-1, -2, 40, 41, 59, 60, 1000, 1000000000, -1000000000} {
		for _, words := range [][]int64{nil, deep(5), deep(39)} {
			v := s.world(words, program("dup")...)
			out = append(out, namedVm{"the depth " + digits(depth), withField(v, stack, 0, num(depth))})
		}
	}
	for _, w := range []int64{ref(oldTwo), ref(youngOf), ref(stack)} {
		for _, words := range [][]int64{nil, {num(1)}, deep(39)} {
			out = append(out, namedVm{"the depth is the word " + digits(w), withField(s.world(words), stack, 0, w)})
		}
	}
	for _, depth := range []int{0, 1, 20, 37, 38} {
		for i := depth + 1; i < 40; i++ {
			for _, w := range []int64{num(1), num(-1), num(1000000000), ref(oldTwo), ref(youngOf), ref(stack)} {
				v := withField(s.world(deep(depth), program("dup")...), stack, int64(i), w)
				out = append(out, namedVm{"depth " + digits(int64(depth)) + ", field " + digits(int64(i)) + " is " + digits(w), v})
			}
		}
	}
	for less := range int64(5) {
		out = append(out, namedVm{"too low a depth", withField(s.world(deep(5)), stack, 0, num(less))})
	}
	return out
}

// wrongRests are machines that are right but for the program, Pc, Out or State.
func wrongRests(s site) []namedVm {
	v := s.world([]int64{num(1)}, program("dup", "halt", "drop")...)
	var out []namedVm
	shift := func(name string, change func(v *impl.Vm)) {
		out = append(out, namedVm{name, shifted(v, change)})
	}
	for _, pc := range append([]int64{4, 5, 100, 101}, farHeapNumbers...) {
		shift("Pc "+digits(pc), func(v *impl.Vm) { v.Pc = pc })
	}
	shift("Pc 1 of no program", func(v *impl.Vm) { v.Program, v.Pc = nil, 1 })
	for _, state := range append([]int64{4, 5, 100}, farHeapNumbers...) {
		shift("State "+digits(state), func(v *impl.Vm) { v.State = state })
	}
	for _, count := range []int{301, 302, 1000} {
		shift("Out of "+digits(int64(count)), func(v *impl.Vm) { v.Out = make([]int64, count) })
	}
	for _, far := range []int64{1000000001, -1000000001, 2000000000, 1 << 32, -1 << 63, 1<<63 - 1} {
		for _, i := range []int{0, 1, 150, 299} {
			shift("number "+digits(int64(i))+" of Out is "+digits(far), func(v *impl.Vm) {
				v.Out = make([]int64, 300)
				v.Out[i] = far
			})
		}
		shift("Out is "+digits(far), func(v *impl.Vm) { v.Out = []int64{far} })
	}
	shift("101 Codes", func(v *impl.Vm) { v.Program = slices.Repeat(program("dup"), 101) })
	shift("101 Codes, Pc 101", func(v *impl.Vm) { v.Program, v.Pc = slices.Repeat(program("dup"), 101), 101 })
	for i := range v.Program {
		for _, c := range []impl.Code{{}, {Op: 21}, {Op: -1}, {Op: 12, N: 1}, {Op: 2, N: 10}, {Op: 10, N: 101}, {Op: 1, N: 1000000001}} {
			shift("a Code that is none", func(v *impl.Vm) { v.Program[i] = c })
		}
	}
	return out
}

// TestWrongMachines has one thing wrong each, whatever the State.
func TestWrongMachines(t *testing.T) {
	for _, s := range allSites() {
		for _, c := range slices.Concat(wrongParted(s), wrongStacks(s), wrongRests(s)) {
			wantWrongVm(t, s.name()+", "+c.name, c.vm)
			if modelVmOk(c.vm) {
				t.Errorf("%s: the model takes it for a right one", c.name)
			}
		}
		if t.Failed() {
			return
		}
	}
	for _, c := range slices.Concat(wrongParted(site{}), wrongRests(site{})[:20]) {
		for state := range int64(4) {
			wantWrongVm(t, c.name, withState(c.vm, max(state, c.vm.State)))
		}
	}
}

// TestMachinesOfOtherSizes has a stack or globals with more or fewer fields.
func TestMachinesOfOtherSizes(t *testing.T) {
	sized := func(class int64, hash int64, size int) thing { return aThing(class, hash, 0, make([]int64, size)...) }
	for _, space := range []int{0, 1, 2} {
		for size := range 61 {
			put := func(things ...thing) impl.Heap {
				spaces := make([][]thing, 3)
				spaces[space] = things
				return laidHeap(false, spaces[0], spaces[1], spaces[2])
			}
			at := []int64{0, 2000, 2600}[space]
			stack := vmOf(put(sized(1, 1, size), sized(2, 2, 10)), at, at+4+int64(size), program("dup")...)
			globals := vmOf(put(sized(1, 1, 40), sized(2, 2, size)), at, at+44, program("dup")...)
			if size == 40 {
				wantResult(t, "40 fields", stack, nil, 0)
			} else {
				wantWrongVm(t, "a stack of "+digits(int64(size)), stack)
			}
			if size == 10 {
				wantResult(t, "10 fields", globals, nil, 0)
			} else {
				wantWrongVm(t, "globals of "+digits(int64(size)), globals)
			}
		}
	}
}

// TestMachinesOfWrongHeaps has a heap that is not right, and all else as it should be.
func TestMachinesOfWrongHeaps(t *testing.T) {
	wantWrongVm(t, "the zero Vm", impl.Vm{})
	wantWrongVm(t, "a heap of no object", impl.Vm{Heap: impl.NewHeap()})
	for _, c := range wrongHeaps() {
		wantWrongVm(t, c.name, impl.Vm{Heap: c.heap, Program: program("dup")})
	}
	for _, s := range allSites() {
		v := s.world(deep(3), program("dup")...)
		broken := func(name string, change func(h *impl.Heap)) {
			one := cloneVm(v)
			change(&one.Heap)
			wantWrongVm(t, s.name()+", "+name, one)
		}
		_, stack, globals := s.places()
		broken("a word too few", func(h *impl.Heap) { h.Words = h.Words[:3199] })
		broken("a word too many", func(h *impl.Heap) { h.Words = append(h.Words, 0) })
		broken("the hash of both is alike", func(h *impl.Heap) { h.Words[stack+2] = h.Words[globals+2] })
		broken("Hash is the last one's", func(h *impl.Heap) { h.Hash = 41 })
		broken("Hash beyond MaxInt", func(h *impl.Heap) { h.Hash = 1000000001 })
		broken("Kept has one more", func(h *impl.Heap) { h.Kept = append(h.Kept, oldBare) })
		broken("a word that is none on the stack", func(h *impl.Heap) { h.Words[stack+5] = 2000000002 })
		broken("an address of no object on the stack", func(h *impl.Heap) { h.Words[stack+5] = ref(stack + 1) })
		broken("an address of no object in a global", func(h *impl.Heap) { h.Words[globals+4] = ref(1) })
		broken("the depth is no word", func(h *impl.Heap) { h.Words[stack+4] = -1 })
		broken("the stack is within itself", func(h *impl.Heap) { h.Roots[0] = ref(stack + 4) })
		broken("the age of the stack", func(h *impl.Heap) { h.Words[stack+3] = 16 })
		if s.globals == 0 {
			broken("Kept has one fewer", func(h *impl.Heap) { h.Kept = h.Kept[:len(h.Kept)-1] })
		}
	}
}

// hurtVm changes one number of a machine.
func hurtVm(n *numbers, v *impl.Vm) {
	near := []int64{-1000000001, -1000000000, -1, 0, 1, 2, 3, 4, 39, 40, 78, 79, 80, 99, 100, 101, 1000000000, 1000000001}
	pick := near[n.below(len(near))]
	stack, globals := (v.Heap.Roots[0]-1)/2, (v.Heap.Roots[1]-1)/2
	switch n.below(10) {
	case 0:
		v.Pc += []int64{-1, 1, 2, pick}[n.below(4)]
	case 1:
		v.State = pick
	case 2:
		v.Out = append(v.Out, pick)
	case 3:
		v.Heap.Words[stack+4] = pick
	case 4:
		v.Heap.Words[stack+4+int64(n.below(40))] = pick
	case 5:
		v.Heap.Words[stack+int64(n.below(4))] = pick
	case 6:
		v.Heap.Words[globals+int64(n.below(4))] = pick
	case 7:
		if len(v.Program) > 0 {
			v.Program[n.below(len(v.Program))] = impl.Code{Op: int64(n.below(23)), N: pick}
		}
	case 8:
		v.Heap.Roots = append(v.Heap.Roots, pick)[n.below(2):]
	default:
		hurt(n, &v.Heap)
	}
}

// TestHurtMachines holds machines, of which one number is another, against the model.
func TestHurtMachines(t *testing.T) {
	n := numbers(154)
	right, wrong := 0, 0
	for _, c := range rightVms() {
		for range 20 {
			v := cloneVm(c.vm)
			hurtVm(&n, &v)
			if modelVmOk(v) {
				right++
				wantTick(t, "hurt", v, modelTick(v))
			} else {
				wrong++
				wantWrongVm(t, "hurt", v)
			}
		}
		if t.Failed() {
			t.FailNow()
		}
	}
	if right < 1000 || wrong < 1000 {
		t.Errorf("%d right and %d wrong machines are too few of a kind", right, wrong)
	}
}
