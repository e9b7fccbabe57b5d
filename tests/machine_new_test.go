package tests

import (
	"slices"
	"testing"

	"loop.example/g00140/impl"
)

// TestNewMachines has every number of the answer written out.
func TestNewMachines(t *testing.T) {
	h := impl.Heap{Words: make([]int64, 3200), Roots: []int64{4001, 4089}, Eden: 2058, Surv: 2600, Hash: 3}
	copy(h.Words[2000:], []int64{40, 1, 1, 0})
	copy(h.Words[2044:], []int64{10, 2, 2, 0})
	n := numbers(150)
	for _, count := range []int{0, 1, 2, 50, 99, 100} {
		codes := drawnProgram(&n, count)
		v, is := impl.NewVm(codes)
		want := impl.Vm{Heap: h, Program: codes}
		if !is || !sameVm(v, want) || !impl.VmOk(v) || v.Pc != 0 || v.State != impl.VmRuns || len(v.Out) != 0 {
			t.Errorf("%d Codes: NewVm says %v: %s, not %s", count, is, vmText(v), vmText(want))
		}
		wantHeap(t, "a new machine", v.Heap, []int64{2000, 2044})
		wantHeader(t, "a new machine", v.Heap, 2000, [4]int64{40, 1, 1, 0})
		wantHeader(t, "a new machine", v.Heap, 2044, [4]int64{10, 2, 2, 0})
		wantResult(t, "a new machine", v, nil, 0)
	}
	if v, is := impl.NewVm(nil); !is || !sameVm(v, impl.Vm{Heap: h}) {
		t.Errorf("no program: %v: %s", is, vmText(v))
	}
}

// TestNewMachinesOfEachCode has a program of one Code, at each end of each range.
func TestNewMachinesOfEachCode(t *testing.T) {
	for _, c := range endCodes() {
		v, is := impl.NewVm([]impl.Code{c})
		if !is || !slices.Equal(v.Program, []impl.Code{c}) || !impl.VmOk(v) {
			t.Errorf("%v: %v: %s", c, is, vmText(v))
		}
	}
}

func wantNoVm(t *testing.T, name string, codes []impl.Code) {
	t.Helper()
	defer noPanic(t, name)
	if v, is := impl.NewVm(codes); is || !isZeroVm(v) {
		t.Errorf("%s: NewVm says %v: %s", name, is, vmText(v))
	}
	wantWrongVm(t, name, impl.Vm{Heap: mustNewVm(t, nil).Heap, Program: codes})
}

func TestNoMachinesOfTooManyCodes(t *testing.T) {
	n := numbers(151)
	for _, count := range []int{101, 102, 200, 1000} {
		wantNoVm(t, digits(int64(count))+" Codes", drawnProgram(&n, count))
	}
}

// TestNoMachinesOfWrongCodes has one Code that is none, at each place of a program.
func TestNoMachinesOfWrongCodes(t *testing.T) {
	n := numbers(152)
	var wrong []impl.Code
	for _, f := range codeForms() {
		for _, far := range []int64{f.least - 1, f.most + 1, -1 << 63, 1<<63 - 1, 1<<32 + f.least} {
			if !between(f.least, far, f.most) {
				wrong = append(wrong, impl.Code{Op: f.op, N: far})
			}
		}
	}
	for _, op := range farOps {
		wrong = append(wrong, impl.Code{Op: op}, impl.Code{Op: op, N: 5})
	}
	for _, c := range wrong {
		wantNoVm(t, "one Code", []impl.Code{c})
	}
	codes := drawnProgram(&n, 100)
	for i := range codes {
		one := slices.Clone(codes)
		one[i] = wrong[n.below(len(wrong))]
		wantNoVm(t, "Code "+digits(int64(i))+" of 100", one)
	}
	wantNoVm(t, "a wrong Code behind 100", append(slices.Clone(codes), wrong[0]))
}
