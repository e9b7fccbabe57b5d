package tests

import (
	"slices"
	"testing"

	"loop.example/g00140/impl"
)

type namedProgram struct {
	name  string
	codes []impl.Code
}

// longPrograms go on for ever, or for long, and make more objects than there is room for at once.
func longPrograms() []namedProgram {
	return []namedProgram{
		{"a list of 30, and the sum of what is in it", program(
			"push 0", "save 1", "push 0", "save 0",
			"new 20", "dup", "load 1", "set 0", "dup", "load 0", "set 1", "save 0", // 4: one more
			"load 1", "push 1", "add", "dup", "save 1", "push 30", "less", "zero 21", "jump 4",
			"load 0", "save 2", "push 0", "save 3", // 21: the sum
			"load 2", "get 0", "load 3", "add", "save 3", "load 2", "get 1", "dup", "save 2", "zero 36", "jump 25",
			"load 3", "print", "load 0", "hash", "print", "jump 0")}, // 36
		{"two that become each other", program(
			"new 3", "save 0", "new 3", "save 1", "load 0", "load 1", "set 0", "load 1", "load 0", "set 0",
			"load 0", "load 1", "become", "load 0", "hash", "print", "load 0", "get 0", "hash", "print",
			"new 40", "drop", "load 1", "new 10", "set 1", "jump 10")},
		{"calls within calls", program(
			"push 12", "call 4", "print", "jump 0",
			"swap", "dup", "zero 14", "dup", "push 1", "sub", "call 4", "new 12", "drop", "add", "swap", "back")},
		{"an old one with young ones", program(
			"new 5", "save 0", "load 0", "new 3", "set 0", "load 0", "get 0", "load 0", "set 1", "load 0", "get 0", "push 5", "set 2",
			"load 0", "get 0", "hash", "print", "new 33", "save 5", "jump 2")},
		{"large ones on a deep stack", program(
			"new 60", "new 60", "new 60", "new 0", "swap", "dup", "hash", "print", "drop", "drop", "drop", "push 3", "push 4", "less", "save 9", "drop", "jump 0")},
		{"nothing but new and drop", program("new 60", "drop", "jump 0")},
		{"a chain that grows until there is no room", program("new 17", "dup", "load 0", "set 16", "save 0", "load 0", "hash", "print", "jump 0")},
	}
}

// TestRunsWritten has what is printed written out.
func TestRunsWritten(t *testing.T) {
	want := map[string][]int64{
		"a list of 30, and the sum of what is in it": {435, 32, 435, 62},
		"two that become each other":                 {4, 4, 3, 4, 4, 4, 3, 4, 4, 4, 3, 4},
		"calls within calls":                         {78, 78, 78, 78, 78, 78},
		"an old one with young ones":                 {4, 6, 8, 10, 12, 14, 16, 18, 20, 22},
		"large ones on a deep stack":                 {5, 9, 13, 17, 21, 25, 29, 33},
	}
	for _, p := range longPrograms() {
		v := impl.RunVm(mustNewVm(t, p.codes), 2000)
		out, _ := impl.Result(v)
		for i, n := range want[p.name] {
			if i >= len(out) || out[i] != n {
				t.Errorf("%s: it prints %v, not %v", p.name, out[:min(len(out), 12)], want[p.name])
				break
			}
		}
		if p.name != "a chain that grows until there is no room" && v.State != impl.VmRuns || !impl.VmOk(v) {
			t.Errorf("%s: %s", p.name, vmText(v))
		}
	}
	grown := impl.RunVm(mustNewVm(t, program("new 17", "dup", "load 0", "set 16", "save 0", "jump 0")), 2000)
	if grown.State != impl.VmFull || grown.Pc != 0 || !impl.VmOk(grown) || impl.Reached(grown.Heap) < 2000 {
		t.Errorf("a chain that grows: %s", vmText(grown))
	}
}

// TestRunIsTicks runs each program tick by tick, and at once.
func TestRunIsTicks(t *testing.T) {
	for _, p := range longPrograms() {
		v := mustNewVm(t, p.codes)
		ticked := v
		for n := range int64(500) {
			if n < 60 || n%23 == 0 {
				if got := impl.RunVm(v, n); !sameVm(got, ticked) {
					t.Fatalf("%s: run for %d ticks it is %s, not %s", p.name, n, vmText(got), vmText(ticked))
				}
			}
			ticked = impl.Tick(ticked)
		}
	}
}

// TestRunsInParts has n ticks and then m, which are n + m.
func TestRunsInParts(t *testing.T) {
	n := numbers(155)
	for _, p := range longPrograms() {
		v := mustNewVm(t, p.codes)
		for range 12 {
			first := int64(n.below(2001))
			second := int64(n.below(int(2001 - first)))
			if got, want := impl.RunVm(impl.RunVm(v, first), second), impl.RunVm(v, first+second); !sameVm(got, want) {
				t.Fatalf("%s: %d and %d ticks: it is %s, not %s", p.name, first, second, vmText(got), vmText(want))
			}
		}
		twice := impl.RunVm(impl.RunVm(v, 2000), 2000)
		parts := v
		for range 40 {
			parts = impl.RunVm(parts, 100)
		}
		if !sameVm(parts, twice) || !impl.VmOk(parts) {
			t.Errorf("%s: 40 times 100 it is %s, not %s", p.name, vmText(parts), vmText(twice))
		}
	}
}

// TestHowManyTicks has both ends of the range, and beyond them.
func TestHowManyTicks(t *testing.T) {
	count := mustNewVm(t, program("load 0", "push 1", "add", "save 0", "jump 0"))
	for _, ticks := range []int64{0, 1, 2, 4, 5, 1999, 2000} {
		v := impl.RunVm(count, ticks)
		if v.Pc != ticks%5 || v.Heap.Words[2048] != num((ticks+1)/5) || v.State != 0 {
			t.Errorf("%d ticks: global 0 is %d, %s", ticks, v.Heap.Words[2048], vmText(v))
		}
	}
	for _, c := range rightVms() {
		for _, ticks := range []int64{-1, 2001, 2002} {
			if v := impl.RunVm(c.vm, ticks); !isZeroVm(v) {
				t.Errorf("%s, %d ticks: %s", c.name, ticks, vmText(v))
			}
		}
	}
	for _, ticks := range farHeapNumbers {
		if v := impl.RunVm(count, ticks); !isZeroVm(v) {
			t.Errorf("%d ticks: %s", ticks, vmText(v))
		}
	}
}

// TestRunsThatEnd go on to be as they were when they ended.
func TestRunsThatEnd(t *testing.T) {
	for _, c := range []struct {
		lines []string
		ticks int64
		pc    int64
		state int64
		out   []int64
	}{
		{[]string{"push 1", "print"}, 3, 2, 1, []int64{1}},
		{[]string{"push 1", "print", "halt", "print"}, 3, 3, 1, []int64{1}},
		{[]string{"halt"}, 1, 1, 1, nil},
		{[]string{"push 1", "print", "print"}, 3, 2, 2, []int64{1}},
		{[]string{"jump 1"}, 2, 1, 1, nil},
		{[]string{"jump 2"}, 1, 0, 2, nil},
		{[]string{"call 1"}, 2, 1, 1, nil},
		{[]string{"push 7", "print", "push 100", "back"}, 4, 3, 2, []int64{7}},
		{[]string{"push 0", "zero 3", "halt"}, 3, 3, 1, nil},
		{[]string{"push 0", "zero 4"}, 2, 1, 2, nil},
		{[]string{"push 5", "zero 4"}, 2, 1, 2, nil},
	} {
		v := mustNewVm(t, program(c.lines...))
		early, end := impl.RunVm(v, c.ticks-1), impl.RunVm(v, c.ticks)
		if early.State != 0 {
			t.Errorf("%v: it has ended at tick %d", c.lines, c.ticks-1)
		}
		wantResult(t, c.lines[0], end, c.out, c.state)
		for _, more := range []int64{1, 2, 100, 2000 - c.ticks} {
			if got := impl.RunVm(v, c.ticks+more); !sameVm(got, end) || got.Pc != c.pc {
				t.Errorf("%v: later it is %s, not %s", c.lines, vmText(got), vmText(end))
			}
		}
	}
}

// TestNoProgram halts at once.
func TestNoProgram(t *testing.T) {
	v := mustNewVm(t, nil)
	wantTick(t, "no program", v, withState(v, 1))
	if got := impl.RunVm(v, 2000); !sameVm(got, withState(v, 1)) {
		t.Errorf("it is %s", vmText(got))
	}
}

// TestResults has each State, with numbers and without.
func TestResults(t *testing.T) {
	for _, s := range allSites() {
		for state := range int64(4) {
			for _, out := range [][]int64{nil, {0}, {5, -5, 5}, slices.Repeat([]int64{1000000000, -1000000000}, 150)} {
				v := withState(s.world(deep(3), program("dup")...), state)
				v.Out = out
				wantResult(t, s.name(), v, out, state)
			}
		}
	}
}
