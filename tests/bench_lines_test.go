package tests

import (
	"strings"
	"testing"

	"loop.example/g00140/impl"
)

// TestLinesWithoutAByte are passed over wherever they are.
func TestLinesWithoutAByte(t *testing.T) {
	for _, text := range []string{"", "\n", "\n\n", "\n\n\n", strings.Repeat("\n", 199), strings.Repeat("\n", 200), strings.Repeat("\n", 201), strings.Repeat("\n", 20000)} {
		wantAnswers(t, "nothing else", text, "")
	}
	for ahead := range 4 {
		for between := range 4 {
			for behind := range 4 {
				gap := strings.Repeat("\n", between)
				text := strings.Repeat("\n", ahead) + "push 5\n" + gap + ".boot\n" + gap + "pop\n" + gap + ".x\n" + gap + ".out\n" + gap + ".graph" + strings.Repeat("\n", behind)
				wantAnswers(t, "lines without a byte", text, "ok\nerror 2\nerror 1\n\n2 58\n")
			}
		}
	}
	// A line with a byte that is not to be seen is not passed over.
	for _, line := range []string{" ", "\t", "\r", "\x00", "\v", "\f"} {
		wantAnswers(t, "a blank", line+"\n"+line+"\n", "error 2\nerror 2\n")
		wantAnswers(t, "a blank at the end", ".boot\n"+line, "ok\nerror 2\n")
	}
}

// TestTheLastLine may lack its byte 10, whatever it is.
func TestTheLastLine(t *testing.T) {
	ahead := "push 8\nprint\n.boot\n.run 2\n"
	for line, answer := range map[string]string{
		".out": "8\n", ".graph": "2 58\n", ".save": "1\n", ".run 1": "1\n", ".run 0": "0\n", ".fail 0": "0\n", ".restart": "0\n", ".boot": "ok\n", ".scavenge": "58\n", ".compact": "58\n",
		".run 2001": "error 4\n", ".": "error 1\n", ".run": "error 1\n", ".run ": "error 1\n", "push": "error 2\n", "push 1": "", "halt": "", "x": "error 2\n", " ": "error 2\n",
	} {
		for _, end := range []string{"", "\n", "\n\n", "\n\n\n"} {
			wantAnswers(t, line, ahead+line+end, "ok\n0\n"+answer)
			if answer != "8\n" && line != ".run 1" && line != ".run 0" {
				wantAnswers(t, line+" alone", line+end, answer)
			}
		}
	}
}

// TestMaxText has just as many bytes as there may be, and one more.
func TestMaxText(t *testing.T) {
	if impl.MaxText != 20000 || impl.MaxLines != 200 {
		t.Fatal("the limits are other ones")
	}
	for _, c := range []struct {
		name string
		text string
		want string
	}{
		{"one line", strings.Repeat("x", 20000), "error 2\n"},
		{"one line that is ended", strings.Repeat("x", 19999) + "\n", "error 2\n"},
		{"one command", "." + strings.Repeat("x", 19999), "error 1\n"},
		{"one number", ".run " + strings.Repeat("9", 19995), "error 1\n"},
		{"blanks", ".run" + strings.Repeat(" ", 19996), "error 1\n"},
		{"a line ahead", strings.Repeat("x", 19993) + "\n.graph", "error 2\n2 58\n"},
		{"a line ahead, and ended", strings.Repeat("x", 19992) + "\n.graph\n", "error 2\n2 58\n"},
		{"a line behind", ".graph\n" + strings.Repeat("x", 19993), "2 58\nerror 2\n"},
		{"a line behind, and ended", ".graph\n" + strings.Repeat("x", 19992) + "\n", "2 58\nerror 2\n"},
		{"runes of two bytes", strings.Repeat("\u00e9", 10000), "error 2\n"},
		{"200 lines", strings.Repeat(strings.Repeat("x", 99)+"\n", 200), strings.Repeat("error 2\n", 200)},
		{"200 lines, the last one not ended", strings.Repeat(strings.Repeat("x", 99)+"\n", 199) + strings.Repeat("x", 100), strings.Repeat("error 2\n", 200)},
	} {
		if len(c.text) != 20000 {
			t.Fatalf("%s: %d bytes", c.name, len(c.text))
		}
		wantAnswers(t, c.name, c.text, c.want)
		wantAnswers(t, c.name+", a byte less", c.text[1:], modelAnswers(c.text[1:]))
		for _, more := range []string{"x", "\n", " ", ".", "\x00"} {
			wantAnswers(t, c.name+", a byte more behind", c.text+more, "")
			wantAnswers(t, c.name+", a byte more ahead", more+c.text, "")
		}
		wantAnswers(t, c.name+", twice", c.text+c.text, "")
	}
	wantAnswers(t, "too much of it, what is ahead is answered no more", ".boot\n.graph\n"+strings.Repeat("x", 20000), "")
	wantAnswers(t, "runes of two bytes", strings.Repeat("\u00e9", 10001), "")
}

// TestMaxLines has just as many lines as there may be, and one more; those without a byte count.
func TestMaxLines(t *testing.T) {
	for _, line := range []string{".out", ".graph", ".boot", ".x", "pop", ".run 1"} {
		one := modelAnswers(line + "\n")
		wantAnswers(t, "199 lines", strings.Repeat(line+"\n", 199), strings.Repeat(one, 199))
		wantAnswers(t, "200 lines", strings.Repeat(line+"\n", 200), strings.Repeat(one, 200))
		wantAnswers(t, "200 lines, the last one not ended", strings.Repeat(line+"\n", 199)+line, strings.Repeat(one, 200))
		wantAnswers(t, "201 lines", strings.Repeat(line+"\n", 201), "")
		wantAnswers(t, "201 lines, the last one not ended", strings.Repeat(line+"\n", 200)+line, "")
		wantAnswers(t, "201 lines, the last one without a byte", strings.Repeat(line+"\n", 200)+"\n", "")
		wantAnswers(t, "201 lines, the first one without a byte", "\n"+strings.Repeat(line+"\n", 200), "")
		wantAnswers(t, "201 lines, one in the midst without a byte", strings.Repeat(line+"\n", 100)+"\n"+strings.Repeat(line+"\n", 100), "")
		for _, at := range []int{0, 1, 2, 99, 150, 198, 199} {
			ahead, behind := strings.Repeat("\n", at), strings.Repeat("\n", 199-at)
			wantAnswers(t, "200 lines, all but one without a byte", ahead+line+"\n"+behind, one)
			wantAnswers(t, "201 lines, all but one without a byte", ahead+line+"\n"+behind+"\n", "")
			wantAnswers(t, "201 lines, all but one without a byte", "\n"+ahead+line+"\n"+behind, "")
		}
		wantAnswers(t, "200 lines, the last one not ended, all others without a byte", strings.Repeat("\n", 199)+line, one)
		wantAnswers(t, "201 lines, the last one not ended, all others without a byte", strings.Repeat("\n", 200)+line, "")
	}
	wantAnswers(t, "a space in the last line counts", strings.Repeat(".out\n", 200)+" ", "")
	wantAnswers(t, "Codes and commands", strings.Repeat("dup\n", 100)+strings.Repeat("\n", 50)+strings.Repeat(".graph\n", 50), strings.Repeat("2 58\n", 50))
	wantAnswers(t, "Codes and commands, one line more", strings.Repeat("dup\n", 100)+strings.Repeat("\n", 51)+strings.Repeat(".graph\n", 50), "")
}

// TestBothLimits are met at once.
func TestBothLimits(t *testing.T) {
	text := strings.Repeat("\n", 199) + strings.Repeat("x", 19801)
	wantAnswers(t, "20000 bytes in 200 lines", text, "error 2\n")
	wantAnswers(t, "a byte more", text+"x", "")
	wantAnswers(t, "a line more, and no byte", "\n"+text[:len(text)-1], "")
	wantAnswers(t, "both", "\n"+text, "")
}

// TestAnswersAreLinesAlone: as many byte 10 as there are answers, the last byte is one, and no other text is told.
func TestAnswersAreLinesAlone(t *testing.T) {
	n := numbers(185)
	for range 100 {
		text := drawnBench(&n)
		out := impl.Bench(text)
		count := 0
		for _, line := range modelLines(text) {
			if line == "" {
				continue
			}
			if _, is := modelRead(line); !is || line[0] == '.' {
				count++
			}
		}
		if added := strings.Count(out, "error 3\n"); strings.Count(out, "\n") != count+added {
			t.Fatalf("%q: %d answers, not %d and %d", text, strings.Count(out, "\n"), count, added)
		}
		if out != "" && !strings.HasSuffix(out, "\n") {
			t.Fatalf("%q: the last answer is not ended: %q", text, out)
		}
		for _, line := range strings.Split(strings.TrimSuffix(out, "\n"), "\n") {
			if !answerForm.MatchString(line) {
				t.Fatalf("%q: an answer is %q", text, line)
			}
		}
	}
}
