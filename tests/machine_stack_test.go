package tests

import (
	"slices"
	"testing"

	"loop.example/g00140/impl"
)

// stackCase is a line, and the stack ahead of it and behind it; where that is nil, the machine is stuck.
type stackCase struct {
	line   string
	before []int64
	after  []int64
}

func stuckAt(line string, before ...int64) stackCase { return stackCase{line, before, nil} }

func doneAt(line string, before []int64, after ...int64) stackCase {
	if after == nil {
		after = []int64{}
	}
	return stackCase{line, before, after}
}

// wantCases tries each in a world, at one of four places of a program.
func wantCases(t *testing.T, s site, cases []stackCase) {
	t.Helper()
	for i, c := range cases {
		pc := i % 4
		codes := slices.Concat(slices.Repeat(program("halt"), pc), program(c.line), slices.Repeat(program("halt"), 3-pc))
		v := withPc(s.world(c.before, codes...), int64(pc))
		name := c.line + ", " + s.name()
		if c.after == nil {
			wantStuck(t, name, v)
		} else {
			wantDone(t, name, v, c.after...)
		}
		if t.Failed() {
			t.FailNow()
		}
	}
}

// kinds are words of each kind that there is in a world: numbers, objects of class 3, and of others, the stack and the globals among them.
func (s site) kinds() ([]int64, []int64, []int64) {
	base, stack, globals := s.places()
	return []int64{0, num(1), num(-1), num(1000000000), num(-1000000000), num(oldTwo), num(youngOf)},
		[]int64{ref(oldTwo), ref(oldBare), ref(youngOf), ref(base)},
		[]int64{ref(oldFour), ref(youngFi), ref(stack), ref(globals)}
}

func (s site) allKinds() []int64 {
	ns, objects, others := s.kinds()
	return slices.Concat(ns, objects, others)
}

func TestPushCodes(t *testing.T) {
	for _, s := range allSites() {
		var cases []stackCase
		for _, n := range []int64{0, 1, -1, 7, 999999999, 1000000000, -1000000000} {
			line := "push " + digits(n)
			for _, depth := range []int{0, 1, 37, 38} {
				cases = append(cases, doneAt(line, deep(depth), behind(deep(depth), num(n))...))
			}
			cases = append(cases, stuckAt(line, deep(39)...))
		}
		wantCases(t, s, cases)
	}
}

func TestLoadAndSaveCodes(t *testing.T) {
	for _, s := range allSites() {
		base, stack, globals := s.places()
		words := s.globalWords(base, stack, globals)
		for n, w := range words {
			load, save := "load "+digits(int64(n)), "save "+digits(int64(n))
			wantCases(t, s, []stackCase{
				doneAt(load, nil, w), doneAt(load, deep(5), behind(deep(5), w)...), doneAt(load, deep(38), behind(deep(38), w)...), stuckAt(load, deep(39)...),
				stuckAt(save),
			})
			for _, depth := range []int{0, 1, 38} {
				for _, x := range s.allKinds() {
					v := s.world(behind(deep(depth), x), program(save)...)
					want := withPc(withStack(withField(v, globals, int64(n), x), deep(depth)...), 1)
					wantTick(t, save+" of "+digits(x)+", "+s.name(), v, want)
				}
			}
		}
	}
}

func TestDupDropAndSwapCodes(t *testing.T) {
	for _, s := range allSites() {
		cases := []stackCase{
			stuckAt("dup"), stuckAt("drop"), stuckAt("swap"), stuckAt("swap", num(1)), stuckAt("swap", ref(oldTwo)), stuckAt("swap", 0),
			stuckAt("dup", deep(39)...), doneAt("dup", deep(38), behind(deep(38), deep(38)[37])...),
			doneAt("drop", deep(39), deep(38)...), doneAt("drop", deep(2), deep(1)...), doneAt("swap", deep(39), behind(deep(37), num(1038), num(1037))...),
		}
		for _, w := range s.allKinds() {
			cases = append(cases, doneAt("dup", []int64{w}, w, w), doneAt("dup", []int64{num(5), w}, num(5), w, w), doneAt("drop", []int64{w}), doneAt("drop", []int64{ref(youngOf), w}, ref(youngOf)))
			for _, x := range s.allKinds() {
				cases = append(cases, doneAt("swap", []int64{w, x}, x, w))
			}
		}
		cases = append(cases, doneAt("swap", []int64{num(1), num(2), num(3)}, num(1), num(3), num(2)))
		wantCases(t, s, cases)
	}
}

// sums are what add, sub and less make of two numbers; nothing where the machine is stuck.
func sums(a int64, b int64) map[string][]int64 {
	out := map[string][]int64{"less": {0}}
	if a < b {
		out["less"] = []int64{2}
	}
	if n := a + b; between(-1000000000, n, 1000000000) {
		out["add"] = []int64{2 * n}
	}
	if n := a - b; between(-1000000000, n, 1000000000) {
		out["sub"] = []int64{2 * n}
	}
	return out
}

// TestSumsWritten has answers written out, at MaxInt and beyond it on both sides.
func TestSumsWritten(t *testing.T) {
	top := int64(1000000000)
	for _, s := range []site{{}, {false, 1, 1}, {true, 2, 0}} {
		wantCases(t, s, []stackCase{
			doneAt("add", []int64{num(3), num(4)}, num(7)), doneAt("sub", []int64{num(3), num(4)}, num(-1)), doneAt("less", []int64{num(3), num(4)}, num(1)), doneAt("less", []int64{num(4), num(3)}, 0), doneAt("less", []int64{num(4), num(4)}, 0),
			doneAt("add", []int64{num(top - 1), num(1)}, num(top)), stuckAt("add", num(top), num(1)), stuckAt("add", num(1), num(top)), stuckAt("add", num(top), num(top)), doneAt("add", []int64{num(top), num(-top)}, 0),
			doneAt("add", []int64{num(1 - top), num(-1)}, num(-top)), stuckAt("add", num(-top), num(-1)), stuckAt("add", num(-1), num(-top)), stuckAt("add", num(-top), num(-top)),
			doneAt("sub", []int64{num(-1), num(top - 1)}, num(-top)), stuckAt("sub", num(-1), num(top)), stuckAt("sub", num(-2), num(top-1)), stuckAt("sub", num(-top), num(top)), doneAt("sub", []int64{num(0), num(top)}, num(-top)),
			doneAt("sub", []int64{num(top - 1), num(-1)}, num(top)), stuckAt("sub", num(top), num(-1)), stuckAt("sub", num(1), num(-top)), doneAt("sub", []int64{num(0), num(-top)}, num(top)), doneAt("sub", []int64{num(top), num(top)}, 0),
			doneAt("less", []int64{num(-top), num(top)}, num(1)), doneAt("less", []int64{num(top), num(-top)}, 0), doneAt("less", []int64{num(-5), num(-4)}, num(1)), doneAt("less", []int64{num(-1), 0}, num(1)),
			doneAt("add", []int64{num(9), num(3), num(4)}, num(9), num(7)), doneAt("sub", []int64{num(9), num(3), num(4)}, num(9), num(-1)), doneAt("less", []int64{num(9), num(3), num(4)}, num(9), num(1)),
		})
	}
}

func TestAddSubAndLessCodes(t *testing.T) {
	for i, s := range allSites() {
		far := []int64{0, 1, -1, 1000000000, -1000000000}
		if i == 4 {
			far = append(far, 2, 500000000, 500000001, -500000000, -500000001, 999999999, -999999999)
		}
		var cases []stackCase
		_, objects, others := s.kinds()
		for _, line := range []string{"add", "sub", "less"} {
			cases = append(cases, stuckAt(line), stuckAt(line, num(1)), stuckAt(line, ref(oldTwo)))
			for _, a := range far {
				for _, b := range far {
					cases = append(cases, stackCase{line, []int64{num(a), num(b)}, sums(a, b)[line]})
				}
			}
			for _, w := range append(objects, others...) {
				cases = append(cases, stuckAt(line, num(1), w), stuckAt(line, w, num(1)), stuckAt(line, w, w), stuckAt(line, 0, w), stuckAt(line, w, 0))
				cases = append(cases, stackCase{line, []int64{w, num(5), num(3)}, behind([]int64{w}, sums(5, 3)[line]...)})
			}
			cases = append(cases, stackCase{line, deep(39), behind(deep(37), sums(1037, 1038)[line]...)})
		}
		wantCases(t, s, cases)
	}
}

// TestPoppedFieldsBecomeNought looks at the words themselves: the places above the depth are 0.
func TestPoppedFieldsBecomeNought(t *testing.T) {
	for _, s := range allSites() {
		_, stack, _ := s.places()
		full := slices.Repeat([]int64{ref(oldTwo), ref(youngOf)}, 20)[:39]
		v := s.world(full, slices.Repeat(program("drop"), 39)...)
		for left := int64(38); left >= 0; left-- {
			v = impl.Tick(v)
			fields := v.Heap.Words[stack+4 : stack+44]
			if fields[0] != num(left) || !slices.Equal(fields[1:left+1], full[:left]) || !slices.Equal(fields[left+1:], make([]int64, 39-left)) {
				t.Fatalf("%s: with %d left the fields are %v", s.name(), left, fields)
			}
		}
		if v = impl.Tick(v); v.State != impl.VmHalted || v.Pc != 39 {
			t.Errorf("%s: %s", s.name(), vmText(v))
		}
	}
}

// TestAStackThatIsOldIsKept has young words that come to the stack and leave it.
func TestAStackThatIsOldIsKept(t *testing.T) {
	for _, s := range allSites() {
		_, stack, globals := s.places()
		v := s.world(nil, program("load 3", "load 3", "drop", "drop", "push 0", "save 3", "push 0", "save 4", "push 0", "save 5", "push 0", "save 6")...)
		held := func(at int64, young bool) bool { return slices.Contains(v.Heap.Kept, at) == (young && at < 2000) }
		for i, young := range []bool{true, true, true, false} {
			if v = impl.Tick(v); !held(stack, young) || !held(globals, true) {
				t.Errorf("%s: behind Code %d, Kept is %v", s.name(), i, v.Heap.Kept)
			}
		}
		v = impl.RunVm(v, 8)
		if !held(globals, false) || !held(stack, false) || v.State != 0 || v.Pc != 12 {
			t.Errorf("%s: at last Kept is %v: %s", s.name(), v.Heap.Kept, vmText(v))
		}
	}
}
