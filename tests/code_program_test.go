package tests

import (
	"strconv"
	"strings"
	"testing"

	"loop.example/g00140/impl"
)

func TestProgramOfAnEmptyText(t *testing.T) {
	wantProgram(t, "")
}

func TestProgramsOfOneLine(t *testing.T) {
	for _, c := range endCodes() {
		text, _ := modelShow(c)
		wantProgram(t, text+"\n", c)
		wantNoProgram(t, text, 0)
	}
}

func TestProgramsOfSomeLines(t *testing.T) {
	wantProgram(t, "push 1\nprint\n", impl.Code{Op: 1, N: 1}, impl.Code{Op: 14})
	wantProgram(t, "dup\ndup\ndup\n", impl.Code{Op: 12}, impl.Code{Op: 12}, impl.Code{Op: 12})
	wantProgram(t, "push -7\nsave 9\nload 9\nzero 100\nback\nhalt\n",
		impl.Code{Op: 1, N: -7}, impl.Code{Op: 3, N: 9}, impl.Code{Op: 2, N: 9}, impl.Code{Op: 11, N: 100}, impl.Code{Op: 20}, impl.Code{Op: 16})
	wantProgram(t, "new 60\nnew 0\nswap\nbecome\nhash\nless\nsub\nadd\ndrop\nget 59\nset 0\njump 0\ncall 100\n",
		impl.Code{Op: 4, N: 60}, impl.Code{Op: 4}, impl.Code{Op: 17}, impl.Code{Op: 18}, impl.Code{Op: 15}, impl.Code{Op: 9}, impl.Code{Op: 8}, impl.Code{Op: 7},
		impl.Code{Op: 13}, impl.Code{Op: 5, N: 59}, impl.Code{Op: 6}, impl.Code{Op: 10}, impl.Code{Op: 19, N: 100})
}

// TestAJumpBeyondTheProgramIsACode: whether there is such a Code to go to, the machine asks, not the text.
func TestAJumpBeyondTheProgramIsACode(t *testing.T) {
	wantProgram(t, "jump 100\n", impl.Code{Op: 10, N: 100})
	wantProgram(t, "zero 1\ncall 99\n", impl.Code{Op: 11, N: 1}, impl.Code{Op: 19, N: 99})
}

func TestLinesThatAreNotEnded(t *testing.T) {
	wantNoProgram(t, "dup", 0)
	wantNoProgram(t, "push 1", 0)
	wantNoProgram(t, "push 1\nprint", 1)
	wantNoProgram(t, "push 1\nprint\nhalt", 2)
	wantNoProgram(t, "push 1\nprint\nx", 2)
	wantNoProgram(t, "push 1\nprint\n ", 2)
	wantNoProgram(t, "x\nprint", 0)
	wantNoProgram(t, "dup\rdup\r", 0)
	wantNoProgram(t, "dup\x00", 0)
	wantNoProgram(t, "dup\u2028", 0)
	wantNoProgram(t, "dup\u010a", 0)
	wantNoProgram(t, "dup\u0a00", 0)
}

func TestEmptyLines(t *testing.T) {
	wantNoProgram(t, "\n", 0)
	wantNoProgram(t, "\n\n", 0)
	wantNoProgram(t, "\ndup\n", 0)
	wantNoProgram(t, "dup\n\n", 1)
	wantNoProgram(t, "dup\n\ndup\n", 1)
	wantNoProgram(t, "dup\ndup\n\n", 2)
	wantNoProgram(t, "dup\ndup\n\nx\n", 2)
	wantNoProgram(t, strings.Repeat("\n", 1000), 0)
}

func TestTheByteThirteenAheadOfTheEnd(t *testing.T) {
	wantNoProgram(t, "dup\r\n", 0)
	wantNoProgram(t, "push 1\r\n", 0)
	wantNoProgram(t, "dup\ndup\r\n", 1)
	wantNoProgram(t, "dup\r\ndup\n", 0)
	wantNoProgram(t, "dup\n\rdup\n", 1)
	wantNoProgram(t, "\r\n", 0)
	wantNoProgram(t, "dup\n\r", 1)
}

func TestALineThatIsNone(t *testing.T) {
	for _, bad := range []string{"x", "", " ", "dup 0", "push", "push ", "push 01", "PUSH 1", "push 1000000001", "push 10000000000", "load 10", "get 60", "jump 101", " dup", "dup ", "du", "dups", "dup\t", "\xff", "push \xff", "dup\x00", "#", ".boot"} {
		for _, length := range []int{1, 2, 3, 10, 99, 100} {
			for _, at := range []int{0, 1, length / 2, length - 2, length - 1} {
				if at < 0 || at >= length {
					continue
				}
				wantNoProgram(t, strings.Repeat("dup\n", at)+bad+"\n"+strings.Repeat("dup\n", length-at-1), int64(at))
			}
		}
	}
}

func TestTheFirstLineThatIsNoneIsTold(t *testing.T) {
	for first := range 20 {
		for second := first + 1; second < 20; second++ {
			lines := strings.Split(strings.Repeat("push 1\n", 20), "\n")[:20]
			lines[first], lines[second] = "x", "dup 1"
			wantNoProgram(t, strings.Join(lines, "\n")+"\n", int64(first))
			wantNoProgram(t, strings.Join(lines, "\n"), int64(first))
		}
	}
}

func TestMaxCodeLines(t *testing.T) {
	n := numbers(140)
	for _, count := range []int{98, 99, 100} {
		codes := drawnProgram(&n, count)
		text := linesOf(codes)
		wantProgram(t, text, codes...)
		wantNoProgram(t, text[:len(text)-1], int64(count-1))
	}
}

func TestOneLineMoreThanMaxCode(t *testing.T) {
	n := numbers(141)
	text := linesOf(drawnProgram(&n, 100))
	for _, more := range []string{
		"dup\n", "push 1\n", "dup", "push 1", "x\n", "x", "\n", " ", "\x00", "\r\n", "\xff", "dup 0\n", "push 01\n", "dup\ndup\n", "dup\nx\n", "x\ndup\n", "\n\n", strings.Repeat("dup\n", 100), strings.Repeat("x\n", 1000),
	} {
		wantNoProgram(t, text+more, 100)
	}
	for _, count := range []int{101, 102, 200, 1000, 100000} {
		wantNoProgram(t, strings.Repeat("dup\n", count), 100)
	}
	wantNoProgram(t, strings.Repeat("dup\n", 99)+"x\n"+strings.Repeat("dup\n", 5), 99)
	wantNoProgram(t, strings.Repeat("dup\n", 50)+"x\n"+strings.Repeat("dup\n", 500), 50)
}

func TestBytesOfManyRunesEndNoLine(t *testing.T) {
	for _, bad := range []string{"\u010a", "\u0a0a", "\xe2\x0a", "\xc3\x0adup", "\xf0\x9f\x0a", "\xff\x0a", "dup\xe2\x0a", "push 1\xc3\x0a"} {
		wantNoProgram(t, bad, 0)
		wantNoProgram(t, "dup\n"+bad, 1)
		wantNoProgram(t, "dup\ndup\n"+bad+"\n", 2)
	}
}

func TestLongProgramTexts(t *testing.T) {
	defer noPanic(t, "a long text")
	wantNoProgram(t, strings.Repeat("x", 1000000), 0)
	wantNoProgram(t, "dup\n"+strings.Repeat(" ", 1000000), 1)
	wantNoProgram(t, "dup\npush "+strings.Repeat("1", 1000000)+"\n", 1)
	wantNoProgram(t, strings.Repeat("\xff", 1000000)+"\n", 0)
	wantNoProgram(t, strings.Repeat("push 1\n", 200000), 100)
}

// TestEachLineOfAProgramCounts has a Code of its own in each line, so that none is left out, told twice or put elsewhere.
func TestEachLineOfAProgramCounts(t *testing.T) {
	var b strings.Builder
	var want []impl.Code
	for i := range 100 {
		b.WriteString("push " + strconv.Itoa(i*i-50) + "\n")
		want = append(want, impl.Code{Op: impl.CdPush, N: int64(i*i - 50)})
	}
	wantProgram(t, b.String(), want...)
}
