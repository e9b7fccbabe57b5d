package tests

import (
	"slices"
	"testing"

	"loop.example/g00140/impl"
)

// atCode is a world whose program has count Codes, all of them halt but the one at pc.
func (s site) atCode(line string, pc int, count int, words ...int64) impl.Vm {
	codes := slices.Repeat(program("halt"), count)
	codes[pc] = program(line)[0]
	return withPc(s.world(words, codes...), int64(pc))
}

// programSizes are how many Codes a program has, and at which one the machine is.
var programSizes = [][2]int{{1, 0}, {2, 0}, {2, 1}, {7, 3}, {99, 0}, {99, 98}, {100, 0}, {100, 50}, {100, 99}}

func TestJumpCodes(t *testing.T) {
	for _, s := range []site{{}, {false, 1, 1}, {true, 2, 0}} {
		for _, size := range programSizes {
			count, pc := int64(size[0]), size[1]
			for _, to := range []int64{0, 1, int64(pc), count - 1, count, count + 1, count + 2, 99, 100} {
				if to > 100 {
					continue
				}
				for _, words := range [][]int64{nil, {0, ref(oldTwo)}, deep(39)} {
					v := s.atCode("jump "+digits(to), pc, size[0], words...)
					name := "jump " + digits(to) + " of " + digits(count)
					if to <= count {
						wantTick(t, name, v, withPc(v, to))
					} else {
						wantStuck(t, name, v)
					}
				}
			}
		}
	}
}

// TestZeroCodes has each kind of word on top: of these the number 0 alone is gone by.
func TestZeroCodes(t *testing.T) {
	for i, s := range allSites() {
		for k, size := range programSizes {
			if i > 0 && k%3 != i%3 {
				continue
			}
			count, pc := int64(size[0]), size[1]
			for _, to := range []int64{0, int64(pc), count, count + 1, 100} {
				if to > 100 {
					continue
				}
				line := "zero " + digits(to)
				wantStuck(t, line, s.atCode(line, pc, size[0]))
				for _, rest := range [][]int64{nil, {0}, deep(38)} {
					for _, w := range s.allKinds() {
						v := s.atCode(line, pc, size[0], behind(rest, w)...)
						name := line + " of " + digits(count) + " at " + digits(w)
						switch {
						case to > count:
							wantStuck(t, name, v)
						case w == 0:
							wantTick(t, name, v, withPc(withStack(v, rest...), to))
						default:
							wantDone(t, name, v, rest...)
						}
					}
				}
			}
		}
	}
}

func TestCallCodes(t *testing.T) {
	for _, s := range allSites() {
		for _, size := range programSizes {
			count, pc := int64(size[0]), size[1]
			for _, to := range []int64{0, int64(pc), count, count + 1, 100} {
				if to > 100 {
					continue
				}
				line := "call " + digits(to)
				wantStuck(t, line, s.atCode(line, pc, size[0], deep(39)...))
				for _, rest := range [][]int64{nil, {ref(youngOf)}, deep(38)} {
					v := s.atCode(line, pc, size[0], rest...)
					if to > count {
						wantStuck(t, line+" of "+digits(count), v)
					} else {
						wantTick(t, line+" of "+digits(count), v, withPc(withStack(v, behind(rest, num(int64(pc)+1))...), to))
					}
				}
			}
		}
	}
}

func TestBackCodes(t *testing.T) {
	for _, s := range allSites() {
		_, objects, others := s.kinds()
		for _, size := range programSizes {
			count, pc := int64(size[0]), size[1]
			wantStuck(t, "back of nothing", s.atCode("back", pc, size[0]))
			for _, rest := range [][]int64{nil, deep(38)} {
				for _, to := range []int64{0, 1, int64(pc), count, count + 1, 101, -1, -2, 1000000000, -1000000000} {
					v := s.atCode("back", pc, size[0], behind(rest, num(to))...)
					name := "back to " + digits(to) + " of " + digits(count)
					if between(0, to, count) {
						wantTick(t, name, v, withPc(withStack(v, rest...), to))
					} else {
						wantStuck(t, name, v)
					}
				}
			}
			for _, w := range append(objects, others...) {
				wantStuck(t, "back to an object", s.atCode("back", pc, size[0], 0, w))
			}
		}
	}
}

// TestCallsAndBacks has a program that calls one part of it from two places, and from within itself.
func TestCallsAndBacks(t *testing.T) {
	v := mustNewVm(t, program(
		"push 5", "call 6", "print", "push 9", "call 6", "jump 9",
		"swap", "dup", "jump 11", // from 6: the word below the way back, twice
		"print", "halt",
		"add", "swap", "back"))
	x := impl.RunVm(v, 100)
	wantResult(t, "calls", x, []int64{10, 18}, 1)
	if x.Pc != 11 {
		t.Errorf("Pc is %d", x.Pc)
	}
	// A call to itself goes on until the stack has too many words.
	deeper := impl.RunVm(mustNewVm(t, program("push 7", "call 1")), 2000)
	wantResult(t, "a call of itself", deeper, nil, 2)
	want := withState(withPc(withStack(mustNewVm(t, program("push 7", "call 1")), behind([]int64{num(7)}, slices.Repeat([]int64{num(2)}, 38)...)...), 1), 2)
	if !sameVm(deeper, want) {
		t.Errorf("it is %s, not %s", vmText(deeper), vmText(want))
	}
}

func TestHaltCodes(t *testing.T) {
	for _, s := range allSites() {
		for _, words := range [][]int64{nil, {ref(oldTwo), 0}, deep(39)} {
			for _, size := range programSizes {
				v := s.atCode("halt", size[1], size[0], words...)
				wantTick(t, "halt", v, withState(withPc(v, v.Pc+1), 1))
			}
		}
	}
}

// TestAtTheEnd halts a machine that runs, with Pc as it was.
func TestAtTheEnd(t *testing.T) {
	for _, s := range allSites() {
		for _, words := range [][]int64{nil, {ref(oldTwo), 0}, deep(39)} {
			for _, count := range []int{0, 1, 99, 100} {
				v := withPc(s.world(words, slices.Repeat(program("add"), count)...), int64(count))
				wantTick(t, "at the end", v, withState(v, 1))
			}
		}
	}
}

// TestMachinesThatDoNotRun are as they were, whatever they would do.
func TestMachinesThatDoNotRun(t *testing.T) {
	for i, s := range allSites() {
		for _, c := range endCodes() {
			v := s.world([]int64{ref(oldTwo), num(2), num(1)}, c)
			for _, state := range []int64{1, 2, 3} {
				for pc := range int64(2) {
					stands := withState(withPc(v, pc), state)
					if i%6 == 0 {
						wantTick(t, "State "+digits(state), stands, stands)
					}
					if got := impl.RunVm(stands, 2000); !sameVm(got, stands) {
						t.Errorf("State %d, %v: it is %s", state, c, vmText(got))
					}
				}
			}
		}
	}
}

// outs is a world that has printed so many numbers.
func (s site) outs(count int, words ...int64) impl.Vm {
	v := s.world(words, program("print", "print")...)
	v.Out = nil
	for i := range count {
		v.Out = append(v.Out, int64(i)-150)
	}
	return v
}

func TestPrintCodes(t *testing.T) {
	for _, s := range allSites() {
		ns, objects, others := s.kinds()
		for _, count := range []int{0, 1, 298, 299, 300} {
			wantStuck(t, "print of nothing", s.outs(count))
			for _, w := range append(objects, others...) {
				wantStuck(t, "print of an object, Out "+digits(int64(count)), s.outs(count, num(1), w))
			}
			for _, w := range ns {
				for _, rest := range [][]int64{nil, deep(38)} {
					v := s.outs(count, behind(rest, w)...)
					if count == 300 {
						wantFull(t, "print, Out 300", v)
						continue
					}
					want := withPc(withStack(v, rest...), 1)
					want.Out = append(want.Out, w/2)
					wantTick(t, "print, Out "+digits(int64(count)), v, want)
				}
			}
		}
	}
}

// TestPrintsUntilOutIsFull has a loop: 300 numbers come behind Out, and the next one is left on the stack.
func TestPrintsUntilOutIsFull(t *testing.T) {
	v := impl.RunVm(mustNewVm(t, program("push 6", "dup", "print", "jump 1")), 2000)
	wantResult(t, "a loop", v, slices.Repeat([]int64{6}, 300), 3)
	want := withPc(withStack(mustNewVm(t, v.Program), num(6), num(6)), 2)
	want.Out, want.State = slices.Repeat([]int64{6}, 300), 3
	if !sameVm(v, want) {
		t.Errorf("it is %s, not %s", vmText(v), vmText(want))
	}
}
