package tests

import (
	"slices"
	"testing"

	"loop.example/g00140/impl"
)

// TestNewCodesWritten has every number of the machine written out, behind new, and behind new that scavenges.
func TestNewCodesWritten(t *testing.T) {
	v := impl.Tick(mustNewVm(t, program("new 2", "new 0")))
	want := mustNewVm(t, program("new 2", "new 0"))
	copy(want.Heap.Words[2058:], []int64{2, 3, 3, 0, 0, 0})
	copy(want.Heap.Words[2004:], []int64{2, 4117})
	want.Heap.Eden, want.Heap.Hash, want.Pc = 2064, 4, 1
	if !sameVm(v, want) {
		t.Errorf("it is %s, not %s", vmText(v), vmText(want))
	}
	v = impl.Tick(v)
	copy(want.Heap.Words[2064:], []int64{0, 3, 4, 0})
	copy(want.Heap.Words[2004:], []int64{4, 4117, 4129})
	want.Heap.Eden, want.Heap.Hash, want.Pc = 2068, 5, 2
	if !sameVm(v, want) {
		t.Errorf("it is %s, not %s", vmText(v), vmText(want))
	}

	// Eight objects of 64 words leave 30 of eden: the ninth comes behind a scavenge, of which the stack and the globals are left.
	loop := program("new 60", "drop", "jump 0")
	v = impl.RunVm(mustNewVm(t, loop), 25)
	h := impl.Heap{Words: make([]int64, 3200), Roots: []int64{5801, 5889}, Eden: 2064, Surv: 2958, Flip: true, Hash: 12}
	copy(h.Words[2900:], []int64{40, 1, 1, 1, 2, 4001})
	copy(h.Words[2944:], []int64{10, 2, 2, 1})
	copy(h.Words[2000:], []int64{60, 3, 11, 0})
	if want := (impl.Vm{Heap: h, Program: loop, Pc: 1}); !sameVm(v, want) {
		t.Errorf("it is %s, not %s", vmText(v), vmText(want))
	}
}

// pushedNew is the machine in whose heap (which may be another one than it was) an object was made and pushed.
func pushedNew(v impl.Vm, h impl.Heap, size int64) impl.Vm {
	made, w, _ := modelNew(h, 3, size)
	then := cloneVm(v)
	then.Heap = made
	at := (made.Roots[0] - 1) / 2
	words := slices.Clone(made.Words[at+5 : at+5+made.Words[at+4]/2])
	return withPc(withStack(then, append(words, w)...), v.Pc+1)
}

// TestNewCodesWithRoom leaves all where it lies.
func TestNewCodesWithRoom(t *testing.T) {
	for _, s := range allSites() {
		for _, size := range []int64{0, 1, 2, 59, 60} {
			line := "new " + digits(size)
			for _, words := range [][]int64{nil, {ref(youngOf)}, deep(38)} {
				v := s.world(words, program(line)...)
				wantTick(t, line+", "+s.name(), v, pushedNew(v, v.Heap, size))
			}
			wantStuck(t, line+", "+s.name(), s.world(deep(39), program(line)...))
		}
	}
}

// ownThings are the stack, with these words, and the globals, with these.
func ownThings(age int64, stack []int64, globals ...int64) []thing {
	return []thing{stackThing(1, age, stack...), globalsThing(2, age, globals...)}
}

// narrow is a machine in the old space, with so many words left in eden, all of whose objects are garbage but the first one, of 64 words, which is on the stack.
func narrow(flip bool, left int64, line string) impl.Vm {
	h := laidHeap(flip, ownThings(3, []int64{num(8), ref(2000)}, num(4)), filled(600-left, 10), nil)
	return vmOf(h, 0, 44, program(line)...)
}

// TestNewCodesAtTheEndOfEden has just as much room as is needed, up to four words more, and up to four fewer: then Scavenge makes it.
func TestNewCodesAtTheEndOfEden(t *testing.T) {
	bothWays(func(flip bool, used int64, spare int64) {
		for size := range int64(61) {
			for more := int64(-4); more <= 4; more++ {
				left := 4 + size + more
				v := narrow(flip, left, "new "+digits(size))
				name := "size " + digits(size) + ", " + digits(left) + " left"
				if more >= 0 {
					wantTick(t, name, v, pushedNew(v, v.Heap, size))
					continue
				}
				own := ownThings(3, []int64{num(8), ref(spare), ref(2000)}, num(4))
				eden := []thing{aThing(3, v.Heap.Hash, 0, make([]int64, size)...)}
				h := laidHeap(!flip, own, eden, []thing{aThing(7, 10, 1, make([]int64, 60)...)})
				h.Hash = v.Heap.Hash + 1
				wantTick(t, name, v, withPc(vmOf(h, 0, 44, v.Program...), 1))
			}
		}
		for left := range int64(4) {
			if left > 0 {
				v := narrow(flip, left, "new 0")
				wantTick(t, digits(left)+" left", v, pushedNew(v, modelScavenge(v.Heap).heap, 0))
			}
		}
	})
}

// TestNewCodesThatScavengeTheMachineItself has the stack and the globals in eden or among the survivors, of each age: they are moved, and the new one is pushed where the stack is then.
func TestNewCodesThatScavengeTheMachineItself(t *testing.T) {
	for age := range int64(16) {
		bothWays(func(flip bool, used int64, spare int64) {
			words := []int64{ref(oldTwo), num(5)}
			old := []thing{aThing(3, 50, 9, 0)}
			own := ownThings(age, words, ref(0))
			v := vmOf(laidHeap(flip, old, append(own, filled(542, 10)...), nil), 2000, 2044, program("new 7")...)
			wantTick(t, "in eden, age "+digits(age), v, pushedNew(v, modelScavenge(v.Heap).heap, 7))
			v = vmOf(laidHeap(flip, old, filled(600, 10), own), used, used+44, program("new 7")...)
			got := impl.Tick(v)
			wantTick(t, "a survivor, age "+digits(age), v, pushedNew(v, modelScavenge(v.Heap).heap, 7))
			stack := spare
			if age >= 2 {
				stack = 5
			}
			if got.Heap.Roots[0] != ref(stack) || got.Heap.Flip == flip || got.Heap.Words[stack+4] != num(3) || got.Heap.Words[stack+7] != ref(2000) {
				t.Errorf("age %d: %s", age, vmText(got))
			}
		})
	}
}

// compactedNew is what Compact leaves of a machine with 8 on its stack and 4 in global 0, and a new object.
func compactedNew(v impl.Vm, size int64) impl.Vm {
	own := ownThings(2, []int64{num(8), ref(2000)}, num(4))
	h := laidHeap(false, own, []thing{aThing(3, v.Heap.Hash, 0, make([]int64, size)...)}, nil)
	return withPc(vmOf(h, 0, 44, v.Program...), 1)
}

// TestNewCodesThatCompact has an old space full of garbage, so that Scavenge says false: Compact makes room.
func TestNewCodesThatCompact(t *testing.T) {
	bothWays(func(flip bool, used int64, spare int64) {
		for _, size := range []int64{0, 9, 60} {
			codes := program("new " + digits(size))
			own := ownThings(2, []int64{num(8)}, num(4))
			eden := vmOf(laidHeap(flip, filled(2000, 100), append(own, filled(542, 10)...), nil), 2000, 2044, codes...)
			survivors := vmOf(laidHeap(flip, filled(2000, 100), filled(600, 10), own), used, used+44, codes...)

			// The machine is old, and garbage that is old keeps garbage that is young in mind.
			kept := slices.Concat(filled(1937, 100), []thing{aThing(4, 90, 0, ref(2000))}, own)
			young := append([]thing{aThing(5, 91, 2, make([]int64, 60)...)}, filled(536, 10)...)
			old := vmOf(laidHeap(flip, kept, young, nil), 1942, 1986, codes...)
			for _, v := range []impl.Vm{eden, survivors, old} {
				if _, is := impl.Scavenge(v.Heap); is || impl.Room(v.Heap) != 0 {
					t.Fatal("the test's own heap has room")
				}
				wantTick(t, "garbage", v, compactedNew(v, size))
			}
		}
	})
}

// linkedThings are of age 2, and each has the next one, where they are laid from an address on.
func linkedThings(things []thing, at int64) []thing {
	for i := range things {
		things[i].age = 2
		at += 4 + int64(len(things[i].fields))
		if i < len(things)-1 {
			things[i].fields[0] = ref(at)
		}
	}
	return things
}

// linkedVm is an old machine whose globals 0 and 1 lead to chains of so many words in the old space, and of 600 in eden; what is left of the old space is garbage.
func linkedVm(flip bool, chain int64, words []int64, line string) impl.Vm {
	old := slices.Concat(ownThings(5, words, ref(58), ref(2000)), linkedThings(filled(chain, 100), 58), filled(1942-chain, 300))
	return vmOf(laidHeap(flip, old, linkedThings(filled(600, 10), 2000), nil), 0, 44, program(line)...)
}

// TestNewCodesWithoutRoom has just 2000 words reached, and one more: then neither makes room, and all is as it was.
func TestNewCodesWithoutRoom(t *testing.T) {
	bothWays(func(flip bool, used int64, spare int64) {
		for _, size := range []int64{0, 1, 60} {
			line := "new " + digits(size)
			v := linkedVm(flip, 1342, []int64{num(8)}, line)
			if n := impl.Reached(v.Heap); n != 2000 {
				t.Fatalf("%d words are reached", n)
			}
			got := impl.Tick(v)
			wantTick(t, "2000 words", v, pushedNew(v, modelCompact(v.Heap).heap, size))
			if got.Heap.Old != 2000 || got.Heap.Eden != 2004+size || got.State != 0 {
				t.Errorf("2000 words: %s", vmText(got))
			}
			for _, chain := range []int64{1343, 1344, 1500, 1938, 1942} {
				wantFull(t, digits(chain)+" words of a chain", linkedVm(flip, chain, []int64{num(8)}, line))
				wantFull(t, digits(chain)+" words of a chain", linkedVm(flip, chain, deep(38), line))
				wantStuck(t, digits(chain)+" words of a chain, a full stack", linkedVm(flip, chain, deep(39), line))
			}
			wantStuck(t, "2000 words, a full stack", linkedVm(flip, 1342, deep(39), line))
		}
	})
}

// TestNewCodesAtTheLastHash has Hash at MaxInt, with room and without; one ahead of it an object is made still.
func TestNewCodesAtTheLastHash(t *testing.T) {
	last := func(v impl.Vm, hash int64) impl.Vm {
		v = cloneVm(v)
		v.Heap.Hash = hash
		return v
	}
	for _, s := range allSites() {
		v := s.world([]int64{num(1)}, program("new 0", "new 0")...)
		wantFull(t, "Hash MaxInt, "+s.name(), last(v, 1000000000))
		wantStuck(t, "Hash MaxInt, a full stack", last(s.world(deep(39), program("new 0")...), 1000000000))
		v = last(v, 999999999)
		wantTick(t, "Hash MaxInt - 1, "+s.name(), v, pushedNew(v, v.Heap, 0))
		v = impl.Tick(v)
		if v.Heap.Hash != 1000000000 || v.State != 0 {
			t.Errorf("%s: %s", s.name(), vmText(v))
		}
		wantFull(t, "then, "+s.name(), v)
	}
	bothWays(func(flip bool, used int64, spare int64) {
		for _, left := range []int64{0, 3, 4, 10} {
			v := narrow(flip, left, "new 0")
			wantFull(t, "Hash MaxInt, "+digits(left)+" left", last(v, 1000000000))
		}
		wantFull(t, "Hash MaxInt, what Compact would make room for", last(linkedVm(flip, 1342, nil, "new 0"), 1000000000))
		v := last(linkedVm(flip, 1342, nil, "new 0"), 999999999)
		wantTick(t, "Hash MaxInt - 1", v, pushedNew(v, modelCompact(v.Heap).heap, 0))
	})
}

// TestOtherCodesWithoutRoom need none: a heap that is full does not keep them.
func TestOtherCodesWithoutRoom(t *testing.T) {
	bothWays(func(flip bool, used int64, spare int64) {
		for _, c := range endCodes() {
			v := linkedVm(flip, 1942, []int64{num(3), num(4)}, "halt")
			v.Program = []impl.Code{c}
			if c.Op != impl.CdNew {
				wantTick(t, "a full heap", v, modelTick(v))
			}
		}
	})
}
