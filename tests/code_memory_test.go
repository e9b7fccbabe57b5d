package tests

import (
	"slices"
	"strings"
	"sync"
	"testing"

	"loop.example/g00140/impl"
)

func TestShownCodesAreNewMemory(t *testing.T) {
	var texts []string
	for range 3 {
		for _, c := range endCodes() {
			texts = append(texts, impl.ShowCode(c))
		}
	}
	for i, a := range texts {
		for _, b := range texts[:i] {
			if sharesBytes(a, b) {
				t.Fatalf("%q and %q share memory", a, b)
			}
		}
	}
}

func scribbleCodes(codes []impl.Code) {
	codes = codes[:cap(codes)]
	for i := range codes {
		codes[i] = impl.Code{Op: 88, N: 88}
	}
}

func TestReadProgramsAreNewMemory(t *testing.T) {
	n := numbers(146)
	for count := range 101 {
		codes := drawnProgram(&n, count)
		text := linesOf(codes)
		first, _ := impl.ReadProgram(text)
		second, _ := impl.ReadProgram(text)
		scribbleCodes(second)
		if !slices.Equal(first, codes) {
			t.Fatalf("%d Codes: two answers share memory", count)
		}
		scribbleCodes(first)
		wantProgram(t, text, codes...)
	}
}

// TestCodeTextsStay reads texts in memory that could be seen to change.
func TestCodeTextsStay(t *testing.T) {
	n := numbers(147)
	texts := []string{"", "dup", "push 5", "push 05", "x", "\xff\xfe", "dup\n", "dup\ndup", "x\ndup\n", "dup\r\n", linesOf(drawnProgram(&n, 100)), linesOf(drawnProgram(&n, 101)), strings.Repeat("\n", 300)}
	for _, text := range texts {
		was := []byte(text)
		given := strings.Clone(text)
		impl.ReadCode(given)
		impl.ReadProgram(given)
		if given != string(was) {
			t.Errorf("%q became %q", was, given)
		}
	}
}

// TestCodesHangOnTheArgumentsAlone asks often, for words are kept in a map, whose order is another each time.
func TestCodesHangOnTheArgumentsAlone(t *testing.T) {
	for range 200 {
		for _, f := range codeForms() {
			c := impl.Code{Op: f.op, N: f.most}
			text, _ := modelShow(c)
			wantShown(t, c, text)
			wantWrongCode(t, impl.Code{Op: f.op, N: f.most + 1})
		}
		wantNotRead(t, "dup 0")
		wantNoProgram(t, "dup\nx\nx\n", 1)
	}
}

func TestCodesAskedByManyAtOnce(t *testing.T) {
	n := numbers(149)
	codes := drawnProgram(&n, 100)
	text := linesOf(codes)
	var all sync.WaitGroup
	for range 8 {
		all.Go(func() {
			for range 20 {
				wantProgram(t, text, codes...)
				wantProgram(t, shownLines(codes), codes...)
				wantNoProgram(t, text+"dup\n", 100)
			}
		})
	}
	all.Wait()
}
