package tests

import (
	"math"
	"regexp"
	"slices"
	"strconv"
	"strings"
	"testing"

	"loop.example/g00140/impl"
)

// codeForm is what the chapter tells of one Op: its word, whether it has N, and the least and the most that N may be.
type codeForm struct {
	op    int64
	word  string
	told  bool
	least int64
	most  int64
}

func codeForms() []codeForm {
	return []codeForm{
		{1, "push", true, -1000000000, 1000000000}, {2, "load", true, 0, 9}, {3, "save", true, 0, 9}, {4, "new", true, 0, 60}, {5, "get", true, 0, 59},
		{6, "set", true, 0, 59}, {7, "add", false, 0, 0}, {8, "sub", false, 0, 0}, {9, "less", false, 0, 0}, {10, "jump", true, 0, 100},
		{11, "zero", true, 0, 100}, {12, "dup", false, 0, 0}, {13, "drop", false, 0, 0}, {14, "print", false, 0, 0}, {15, "hash", false, 0, 0},
		{16, "halt", false, 0, 0}, {17, "swap", false, 0, 0}, {18, "become", false, 0, 0}, {19, "call", true, 0, 100}, {20, "back", false, 0, 0},
	}
}

// farOps are Ops that no Code has: cut to fewer bits some of them would be one.
var farOps = []int64{0, -1, -2, -20, 21, 22, 50, 127, 128, 255, 256, 257, 1<<16 + 1, 1<<31 + 1, 1<<32 + 1, 1<<32 + 7, -1<<32 + 1, 1<<33 + 20, math.MinInt64, math.MinInt64 + 1, math.MaxInt64 - 1, math.MaxInt64}

// someNs are the ends of every range, what lies about them, and far numbers.
func someNs() []int64 {
	var out []int64
	for _, near := range []int64{0, 9, 59, 60, 100, -1000000000, 1000000000, 999999999, -100, 1 << 31, 1 << 32, -1 << 32, 9999999999, -9999999999, 10000000000} {
		for n := near - 2; n <= near+2; n++ {
			out = append(out, n)
		}
	}
	return append(out, math.MinInt64, math.MinInt64+1, math.MaxInt64-1, math.MaxInt64)
}

// modelShow says the chapter again, by the list of forms.
func modelShow(c impl.Code) (string, bool) {
	for _, f := range codeForms() {
		if f.op != c.Op || c.N < f.least || c.N > f.most {
			continue
		}
		if f.told {
			return f.word + " " + digits(c.N), true
		}
		return f.word, true
	}
	return "", false
}

var codeLine = regexp.MustCompile(`^([a-z]+)(?: (0|-?[1-9][0-9]{0,9}))?$`)

// modelRead says the chapter again, by an expression for the form.
func modelRead(text string) (impl.Code, bool) {
	m := codeLine.FindStringSubmatch(text)
	if m == nil {
		return impl.Code{}, false
	}
	n, _ := strconv.ParseInt("0"+strings.TrimPrefix(m[2], "-"), 10, 64)
	if strings.HasPrefix(m[2], "-") {
		n = -n
	}
	for _, f := range codeForms() {
		if f.word == m[1] && f.told == (m[2] != "") && n >= f.least && n <= f.most {
			return impl.Code{Op: f.op, N: n}, true
		}
	}
	return impl.Code{}, false
}

// modelProgram says the chapter again, over lines that keep their ends.
func modelProgram(text string) ([]impl.Code, int64) {
	lines := strings.SplitAfter(text, "\n")
	if last := len(lines) - 1; lines[last] == "" {
		lines = lines[:last]
	}
	var out []impl.Code
	for i, line := range lines {
		bare, ended := strings.CutSuffix(line, "\n")
		c, is := modelRead(bare)
		if !ended || !is || i >= 100 {
			return nil, int64(i)
		}
		out = append(out, c)
	}
	return out, -1
}

// wantShown fails unless c is right, is shown as this text, and is read from it.
func wantShown(t *testing.T, c impl.Code, text string) {
	t.Helper()
	if !impl.CodeOk(c) {
		t.Errorf("%v is not CodeOk", c)
	}
	if got := impl.ShowCode(c); got != text {
		t.Errorf("%v is shown as %q, not %q", c, got, text)
	}
	if got, is := impl.ReadCode(text); !is || got != c {
		t.Errorf("%q is read as %v, %v, not %v", text, got, is, c)
	}
}

// wantWrongCode fails unless c is refused, and shown as nothing.
func wantWrongCode(t *testing.T, c impl.Code) {
	t.Helper()
	defer noPanic(t, "a wrong Code")
	if impl.CodeOk(c) {
		t.Errorf("%v is CodeOk", c)
	}
	if got := impl.ShowCode(c); got != "" {
		t.Errorf("%v is shown as %q", c, got)
	}
}

// wantNotRead fails unless the text is no Code, neither alone nor as the line of a program.
func wantNotRead(t *testing.T, text string) {
	t.Helper()
	defer noPanic(t, "a text that is no Code")
	if c, is := impl.ReadCode(text); is || c != (impl.Code{}) {
		t.Errorf("%.60q is read as %v, %v", text, c, is)
	}
	if !strings.Contains(text, "\n") {
		wantNoProgram(t, text+"\n", 0)
		wantNoProgram(t, "dup\n"+text+"\ndup\n", 1)
	}
}

func wantProgram(t *testing.T, text string, want ...impl.Code) {
	t.Helper()
	if got, bad := impl.ReadProgram(text); bad != -1 || !slices.Equal(got, want) {
		t.Errorf("%.60q is read as %v, %d, not %v", text, got, bad, want)
	}
}

// wantNoProgram fails unless nothing is answered but this line.
func wantNoProgram(t *testing.T, text string, line int64) {
	t.Helper()
	if got, bad := impl.ReadProgram(text); bad != line || len(got) != 0 {
		t.Errorf("%.60q is read as %v, %d, not line %d alone", text, got, bad, line)
	}
}

// drawnCode is right.
func drawnCode(n *numbers) impl.Code {
	forms := codeForms()
	f := forms[n.below(len(forms))]
	c := impl.Code{Op: f.op, N: f.least + int64(n.below(int(f.most-f.least)+1))}
	if f.op == 1 && n.below(2) == 0 {
		c.N = int64(n.below(21)) - 10
	}
	return c
}

func drawnProgram(n *numbers, count int) []impl.Code {
	out := make([]impl.Code, 0, count)
	for range count {
		out = append(out, drawnCode(n))
	}
	return out
}

// linesOf are the Codes as lines, by the model.
func linesOf(codes []impl.Code) string {
	var b strings.Builder
	for _, c := range codes {
		line, _ := modelShow(c)
		b.WriteString(line + "\n")
	}
	return b.String()
}

// endCodes are of each Op the Codes with the least and the most N, and with 0 and 1 and 10 where these are right.
func endCodes() []impl.Code {
	var out []impl.Code
	for _, f := range codeForms() {
		for _, n := range []int64{f.least, f.least + 1, -10, -1, 0, 1, 9, 10, f.most - 1, f.most} {
			c := impl.Code{Op: f.op, N: n}
			if between(f.least, n, f.most) && !slices.Contains(out, c) {
				out = append(out, c)
			}
		}
	}
	return out
}
