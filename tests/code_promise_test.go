package tests

import (
	"slices"
	"strings"
	"testing"

	"loop.example/g00140/impl"
)

// readAgain fails unless ReadCode of ShowCode is the Code.
func readAgain(t *testing.T, c impl.Code) {
	t.Helper()
	text := impl.ShowCode(c)
	if got, is := impl.ReadCode(text); !impl.CodeOk(c) || !is || got != c {
		t.Fatalf("%v is shown as %q, and that read as %v, %v", c, text, got, is)
	}
}

// TestReadCodeOfShowCode goes over every Code but the pushes, of which it has those near the ends and near 0.
func TestReadCodeOfShowCode(t *testing.T) {
	count := 0
	for _, f := range codeForms() {
		for n := f.least; n <= f.most; n++ {
			if f.op == 1 && between(-1000000000+300, n, -300) {
				n = -300
			}
			if f.op == 1 && between(1200, n, 1000000000-300) {
				n = 1000000000 - 300
			}
			readAgain(t, impl.Code{Op: f.op, N: n})
			count++
		}
	}
	if count < 11+2*10+61+2*60+3*101+2000 {
		t.Errorf("only %d Codes", count)
	}
}

func TestReadCodeOfDrawnCodes(t *testing.T) {
	n := numbers(142)
	for range 20000 {
		c := drawnCode(&n)
		readAgain(t, c)
		if want, _ := modelShow(c); impl.ShowCode(c) != want {
			t.Fatalf("%v is shown as %q, not %q", c, impl.ShowCode(c), want)
		}
	}
}

func TestNoTwoCodesAreShownAlike(t *testing.T) {
	of := map[string]impl.Code{}
	for _, f := range codeForms() {
		for n := max(f.least, -200); n <= min(f.most, 200); n++ {
			c := impl.Code{Op: f.op, N: n}
			text := impl.ShowCode(c)
			if had, is := of[text]; is {
				t.Fatalf("%v and %v are shown as %q", had, c, text)
			}
			of[text] = c
		}
	}
}

// wantByModel fails unless the text is read as the model reads it, and what is read is shown as the text.
func wantByModel(t *testing.T, text string) bool {
	t.Helper()
	c, is := impl.ReadCode(text)
	if want, right := modelRead(text); c != want || is != right {
		t.Fatalf("%q is read as %v, %v, not %v, %v", text, c, is, want, right)
	}
	if is && impl.ShowCode(c) != text {
		t.Fatalf("%q is read as %v, which is shown as %q", text, c, impl.ShowCode(c))
	}
	return is
}

func TestEveryByteOfACodeChanged(t *testing.T) {
	defer noPanic(t, "a changed text")
	for _, c := range endCodes() {
		text := impl.ShowCode(c)
		for i := range len(text) + 1 {
			for b := range 256 {
				wantByModel(t, string(slices.Insert([]byte(text), i, byte(b))))
				if i < len(text) {
					other := []byte(text)
					other[i] = byte(b)
					wantByModel(t, string(other))
				}
			}
			if i < len(text) {
				wantByModel(t, string(slices.Delete([]byte(text), i, i+1)))
				wantByModel(t, text[:i])
				wantByModel(t, text[i:])
			}
		}
	}
}

// drawnLine is often a right one.
func drawnLine(n *numbers) string {
	parts := []string{" ", " ", "0", "1", "5", "9", "10", "59", "60", "61", "100", "101", "-", "-1", "1000000000", "1000000001", "00", "+", "x", "\t", "\xff", "\r", "\u00e9", ""}
	switch n.below(4) {
	case 0:
		text, _ := modelShow(drawnCode(n))
		return text
	case 1:
		return codeForms()[n.below(20)].word + " " + parts[n.below(len(parts))]
	}
	var b strings.Builder
	if n.below(4) > 0 {
		b.WriteString(codeForms()[n.below(20)].word)
	}
	for range n.below(5) {
		b.WriteString(parts[n.below(len(parts))])
	}
	return b.String()
}

func TestDrawnLines(t *testing.T) {
	defer noPanic(t, "a drawn line")
	n := numbers(143)
	seen := map[bool]int{}
	for range 40000 {
		seen[wantByModel(t, drawnLine(&n))]++
	}
	if seen[true] < 1000 || seen[false] < 1000 {
		t.Error(seen)
	}
}

// shownLines are the Codes as lines, by ShowCode.
func shownLines(codes []impl.Code) string {
	var b strings.Builder
	for _, c := range codes {
		b.WriteString(impl.ShowCode(c) + "\n")
	}
	return b.String()
}

func TestProgramsOfShownCodes(t *testing.T) {
	n := numbers(144)
	for count := range 101 {
		for range 5 {
			codes := drawnProgram(&n, count)
			wantProgram(t, shownLines(codes), codes...)
		}
	}
	wantProgram(t, shownLines(endCodes()), endCodes()...)
}

func TestDrawnPrograms(t *testing.T) {
	defer noPanic(t, "a drawn program")
	n := numbers(145)
	told := map[bool]int{}
	for range 4000 {
		lines := make([]string, n.below(8))
		for i := range lines {
			lines[i] = drawnLine(&n)
			if n.below(2) == 0 {
				lines[i], _ = modelShow(drawnCode(&n))
			}
		}
		text := strings.Join(lines, "\n") + strings.Repeat("\n", n.below(3))
		got, bad := impl.ReadProgram(text)
		if want, line := modelProgram(text); bad != line || !slices.Equal(got, want) {
			t.Fatalf("%q is read as %v, %d, not %v, %d", text, got, bad, want, line)
		}
		told[bad == -1]++
	}
	if told[true] < 100 || told[false] < 100 {
		t.Error(told)
	}
}

func TestEveryByteOfAProgramChanged(t *testing.T) {
	defer noPanic(t, "a changed program")
	text := "push -1\ndup\nnew 60\nzero 100\nback\n"
	for i := range len(text) {
		for b := range 256 {
			other := []byte(text)
			other[i] = byte(b)
			more, gone := slices.Insert([]byte(text), i, byte(b)), slices.Delete([]byte(text), i, i+1)
			for _, changed := range [][]byte{other, more, gone, other[:i+1]} {
				got, bad := impl.ReadProgram(string(changed))
				if want, line := modelProgram(string(changed)); bad != line || !slices.Equal(got, want) {
					t.Fatalf("%q is read as %v, %d, not %v, %d", changed, got, bad, want, line)
				}
			}
		}
	}
}
