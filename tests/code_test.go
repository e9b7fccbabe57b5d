package tests

import (
	"testing"

	"loop.example/g00140/impl"
)

func TestCodeNumbers(t *testing.T) {
	ops := []int64{
		impl.CdPush, impl.CdLoad, impl.CdSave, impl.CdNew, impl.CdGet, impl.CdSet, impl.CdAdd, impl.CdSub, impl.CdLess, impl.CdJump,
		impl.CdZero, impl.CdDup, impl.CdDrop, impl.CdPrint, impl.CdHash, impl.CdHalt, impl.CdSwap, impl.CdBecome, impl.CdCall, impl.CdBack,
	}
	for i, op := range ops {
		if op != int64(i)+1 {
			t.Errorf("Op %d is %d", i+1, op)
		}
	}
	if len(ops) != 20 || impl.MaxCode != 100 {
		t.Error(len(ops), impl.MaxCode)
	}
}

func TestEachOpHasItsWord(t *testing.T) {
	for _, c := range []struct {
		op, n int64
		text  string
	}{
		{impl.CdPush, 7, "push 7"}, {impl.CdLoad, 3, "load 3"}, {impl.CdSave, 4, "save 4"}, {impl.CdNew, 12, "new 12"}, {impl.CdGet, 11, "get 11"},
		{impl.CdSet, 10, "set 10"}, {impl.CdAdd, 0, "add"}, {impl.CdSub, 0, "sub"}, {impl.CdLess, 0, "less"}, {impl.CdJump, 42, "jump 42"},
		{impl.CdZero, 43, "zero 43"}, {impl.CdDup, 0, "dup"}, {impl.CdDrop, 0, "drop"}, {impl.CdPrint, 0, "print"}, {impl.CdHash, 0, "hash"},
		{impl.CdHalt, 0, "halt"}, {impl.CdSwap, 0, "swap"}, {impl.CdBecome, 0, "become"}, {impl.CdCall, 44, "call 44"}, {impl.CdBack, 0, "back"},
	} {
		wantShown(t, impl.Code{Op: c.op, N: c.n}, c.text)
	}
}

func TestNAtBothEnds(t *testing.T) {
	for _, c := range []struct {
		op, least, most        int64
		leastText, mostText    string
		belowText, beyondText  string
		belowBelow, beyondMore string
	}{
		{impl.CdPush, -1000000000, 1000000000, "push -1000000000", "push 1000000000", "push -1000000001", "push 1000000001", "push -9999999999", "push 9999999999"},
		{impl.CdLoad, 0, 9, "load 0", "load 9", "load -1", "load 10", "load -9", "load 19"},
		{impl.CdSave, 0, 9, "save 0", "save 9", "save -1", "save 10", "save -9", "save 90"},
		{impl.CdNew, 0, 60, "new 0", "new 60", "new -1", "new 61", "new -60", "new 100"},
		{impl.CdGet, 0, 59, "get 0", "get 59", "get -1", "get 60", "get -59", "get 61"},
		{impl.CdSet, 0, 59, "set 0", "set 59", "set -1", "set 60", "set -59", "set 61"},
		{impl.CdJump, 0, 100, "jump 0", "jump 100", "jump -1", "jump 101", "jump -100", "jump 1000"},
		{impl.CdZero, 0, 100, "zero 0", "zero 100", "zero -1", "zero 101", "zero -100", "zero 1000"},
		{impl.CdCall, 0, 100, "call 0", "call 100", "call -1", "call 101", "call -100", "call 1000"},
	} {
		wantShown(t, impl.Code{Op: c.op, N: c.least}, c.leastText)
		wantShown(t, impl.Code{Op: c.op, N: c.most}, c.mostText)
		wantWrongCode(t, impl.Code{Op: c.op, N: c.least - 1})
		wantWrongCode(t, impl.Code{Op: c.op, N: c.most + 1})
		for _, text := range []string{c.belowText, c.beyondText, c.belowBelow, c.beyondMore} {
			wantNotRead(t, text)
		}
	}
}

// TestTheLimitsAreTheNamedOnes holds the ends against the constants that the chapter names.
func TestTheLimitsAreTheNamedOnes(t *testing.T) {
	for _, c := range []struct{ op, least, most int64 }{
		{impl.CdPush, -impl.MaxInt, impl.MaxInt}, {impl.CdNew, 0, impl.MaxFields}, {impl.CdGet, 0, impl.MaxFields - 1}, {impl.CdSet, 0, impl.MaxFields - 1},
		{impl.CdJump, 0, impl.MaxCode}, {impl.CdZero, 0, impl.MaxCode}, {impl.CdCall, 0, impl.MaxCode},
	} {
		for n, want := range map[int64]bool{c.least - 1: false, c.least: true, c.most: true, c.most + 1: false} {
			if got := impl.CodeOk(impl.Code{Op: c.op, N: n}); got != want {
				t.Errorf("CodeOk of Op %d with %d is %v", c.op, n, got)
			}
		}
	}
}

func TestOpsWithoutN(t *testing.T) {
	none := 0
	for _, f := range codeForms() {
		if f.told {
			continue
		}
		none++
		wantShown(t, impl.Code{Op: f.op}, f.word)
		for _, n := range someNs() {
			if n != 0 {
				wantWrongCode(t, impl.Code{Op: f.op, N: n})
			}
			wantNotRead(t, f.word+" "+digits(n))
		}
	}
	if none != 11 {
		t.Errorf("%d Ops have no N", none)
	}
}

func TestNoSuchOps(t *testing.T) {
	for _, op := range farOps {
		for _, n := range append(someNs(), 1, 20, 50) {
			wantWrongCode(t, impl.Code{Op: op, N: n})
		}
	}
	wantWrongCode(t, impl.Code{})
}

func TestFarNs(t *testing.T) {
	for _, f := range codeForms() {
		for _, n := range someNs() {
			c := impl.Code{Op: f.op, N: n}
			if between(f.least, n, f.most) {
				text, _ := modelShow(c)
				wantShown(t, c, text)
				continue
			}
			wantWrongCode(t, c)
			wantNotRead(t, f.word+" "+digits(n))
		}
	}
}

// TestCodesByTheModel goes over all Ops about the right ones, with all Ns about the small ranges.
func TestCodesByTheModel(t *testing.T) {
	for op := int64(-3); op <= 30; op++ {
		for n := int64(-130); n <= 130; n++ {
			c := impl.Code{Op: op, N: n}
			text, is := modelShow(c)
			if impl.CodeOk(c) != is || impl.ShowCode(c) != text {
				t.Fatalf("%v is %v, %q, not %v, %q", c, impl.CodeOk(c), impl.ShowCode(c), is, text)
			}
		}
	}
}

func TestPushOfNumbers(t *testing.T) {
	for n, text := range map[int64]string{
		0: "push 0", 1: "push 1", -1: "push -1", 9: "push 9", 10: "push 10", 99: "push 99", 100: "push 100", -100: "push -100", 101: "push 101",
		123456789: "push 123456789", -123456789: "push -123456789", 999999999: "push 999999999", -999999999: "push -999999999",
		1000000000: "push 1000000000", -1000000000: "push -1000000000", 1203040: "push 1203040",
	} {
		wantShown(t, impl.Code{Op: impl.CdPush, N: n}, text)
	}
}
