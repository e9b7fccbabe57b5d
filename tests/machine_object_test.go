package tests

import (
	"slices"
	"testing"

	"loop.example/g00140/impl"
)

func TestGetCodes(t *testing.T) {
	for _, s := range allSites() {
		base, _, _ := s.places()
		cases := []stackCase{
			stuckAt("get 0"), stuckAt("get 59"),
			doneAt("get 0", []int64{ref(oldTwo)}, num(5)), doneAt("get 1", []int64{ref(oldTwo)}, ref(oldBare)), stuckAt("get 2", ref(oldTwo)), stuckAt("get 59", ref(oldTwo)),
			doneAt("get 0", []int64{ref(youngOf)}, num(7)), doneAt("get 1", []int64{ref(youngOf)}, ref(oldTwo)), doneAt("get 2", []int64{ref(youngOf)}, 0), stuckAt("get 3", ref(youngOf)),
			doneAt("get 0", []int64{ref(base)}, num(9)), stuckAt("get 1", ref(base)), stuckAt("get 0", ref(oldBare)), stuckAt("get 59", ref(oldBare)),
			doneAt("get 1", behind(deep(38), ref(oldTwo)), behind(deep(38), ref(oldBare))...), stuckAt("get 2", behind(deep(38), ref(oldTwo))...), stuckAt("get 0", deep(39)...),
			doneAt("get 0", []int64{ref(oldTwo), ref(youngOf)}, ref(oldTwo), num(7)), stuckAt("get 0", ref(oldTwo), num(0)),
		}
		ns, _, others := s.kinds()
		for _, w := range append(ns, others...) {
			cases = append(cases, stuckAt("get 0", w), stuckAt("get 0", ref(oldTwo), w), stuckAt("get 1", w), stuckAt("get 39", w))
		}
		wantCases(t, s, cases)
	}
}

// TestGetAndSetAtTheLastField has an object of 60 fields, in each space.
func TestGetAndSetAtTheLastField(t *testing.T) {
	fields := make([]int64, 60)
	for i := range fields {
		fields[i] = num(int64(500 + i))
	}
	large := []thing{aThing(3, 9, 0, fields...)}
	own := []thing{stackThing(1, 0, num(77), 0), globalsThing(2, 0)}
	for at, h := range map[int64]impl.Heap{0: laidHeap(false, large, own, nil), 2058: laidHeap(false, nil, append(own, large...), nil), 2900: laidHeap(true, nil, own, large)} {
		for i := range int64(60) {
			v := withStack(vmOf(h, 2000, 2044, program("get "+digits(i))...), num(77), ref(at))
			wantDone(t, "get", v, num(77), fields[i])
			v = withStack(vmOf(h, 2000, 2044, program("set "+digits(i))...), num(77), ref(at), num(-3))
			wantTick(t, "set", v, withPc(withStack(withField(v, at, i, num(-3)), num(77)), 1))
		}
	}
}

func TestSetCodes(t *testing.T) {
	for _, s := range allSites() {
		base, _, _ := s.places()
		ns, objects, others := s.kinds()
		for _, x := range s.allKinds() {
			for at, size := range map[int64]int64{oldTwo: 2, youngOf: 3, base: 1, oldBare: 0} {
				for _, i := range []int64{0, max(size-1, 0), size, 59} {
					depth := map[int64]int{0: 37, 59: 0}[i]
					line := "set " + digits(i)
					v := s.world(behind(deep(depth), ref(at), x), program(line)...)
					name := line + " of " + digits(at) + " to " + digits(x) + ", " + s.name()
					if i < size {
						wantTick(t, name, v, withPc(withStack(withField(v, at, i, x), deep(depth)...), 1))
					} else {
						wantStuck(t, name, v)
					}
				}
			}
			var cases []stackCase
			for _, w := range slices.Concat(ns, others) {
				cases = append(cases, stuckAt("set 0", w, x))
			}
			wantCases(t, s, append(cases, stuckAt("set 0", x), stuckAt("set 0", ref(oldTwo), num(1), x)))
		}
		wantCases(t, s, []stackCase{stuckAt("set 0"), stuckAt("set 0", num(1), ref(oldTwo)), stuckAt("set 0", objects[0]), stuckAt("set 0", deep(39)...)})
	}
}

func TestHashCodes(t *testing.T) {
	for _, s := range allSites() {
		base, _, _ := s.places()
		cases := []stackCase{
			stuckAt("hash"), doneAt("hash", []int64{ref(oldTwo)}, num(10)), doneAt("hash", []int64{ref(oldBare)}, num(11)), doneAt("hash", []int64{ref(youngOf)}, num(20)), doneAt("hash", []int64{ref(base)}, num(30)),
			doneAt("hash", behind(deep(38), ref(base)), behind(deep(38), num(30))...), doneAt("hash", []int64{ref(oldTwo), ref(youngOf)}, ref(oldTwo), num(20)),
		}
		ns, _, others := s.kinds()
		for _, w := range append(ns, others...) {
			cases = append(cases, stuckAt("hash", w), stuckAt("hash", ref(oldTwo), w))
		}
		wantCases(t, s, cases)
	}
	last := laidHeap(false, []thing{stackThing(1, 0, ref(58)), globalsThing(2, 0), aThing(3, 999999999, 0)}, nil, nil)
	wantDone(t, "the last hash", vmOf(last, 0, 44, program("hash")...), num(999999999))
}

// becomeThen is the machine behind become: two words are off the stack, and each other's everywhere else.
func becomeThen(v impl.Vm, rest []int64, a int64, b int64) impl.Vm {
	v = withPc(withStack(v, rest...), v.Pc+1)
	v.Heap = modelChanged(v.Heap, map[int64]int64{a: b, b: a})
	return v
}

func TestBecomeCodes(t *testing.T) {
	for _, s := range allSites() {
		ns, objects, others := s.kinds()
		for _, a := range objects {
			for _, b := range objects {
				for _, rest := range [][]int64{nil, {a}, {b}, {a, b, num(3), a}, deep(37), behind(deep(35), b, a)} {
					v := s.world(behind(rest, a, b), program("become")...)
					wantTick(t, "become, "+s.name(), v, becomeThen(v, rest, a, b))
				}
			}
		}
		cases := []stackCase{stuckAt("become"), stuckAt("become", num(1)), stuckAt("become", ref(oldTwo)), stuckAt("become", num(1), num(2))}
		for _, w := range append(ns, others...) {
			for _, x := range objects {
				cases = append(cases, stuckAt("become", w, x), stuckAt("become", x, w), stuckAt("become", w, w), stuckAt("become", x, x, w))
			}
		}
		wantCases(t, s, cases)
	}
}

// TestBecomeWritten has what a program sees: two objects are each other's, by their hashes and fields.
func TestBecomeWritten(t *testing.T) {
	v := mustNewVm(t, program(
		"new 1", "save 0", "new 2", "save 1", // hashes 3 and 4
		"load 0", "push 70", "set 0", "load 1", "push 80", "set 0", "load 1", "load 0", "set 1",
		"load 0", "load 1", "become",
		"load 0", "hash", "print", "load 1", "hash", "print", "load 0", "get 0", "print", "load 1", "get 0", "print",
		"load 0", "get 1", "hash", "print", "load 0", "get 1", "get 0", "print",
		"load 1", "get 1"))
	x := impl.RunVm(v, 100)
	// What was global 0 is the second one; its field 1, which was the first one, is the second one itself.
	wantResult(t, "become", x, []int64{4, 3, 80, 70, 4, 80}, 2)
	if x.Pc != int64(len(v.Program))-1 {
		t.Errorf("Pc is %d", x.Pc)
	}
}
