package tests

import (
	"regexp"
	"slices"
	"strings"
	"testing"

	"loop.example/g00140/impl"
)

var answerForm = regexp.MustCompile(`^(ok|error [1-7]|(-?[0-9]+( -?[0-9]+)*)?)$`)

// drawnCommand is one of the table more often than not, or nearly one.
func drawnCommand(n *numbers) string {
	switch n.below(24) {
	case 0:
		return ".boot"
	case 1, 2:
		return ".scavenge"
	case 3:
		return ".compact"
	case 4, 5, 6:
		return ".save"
	case 7, 8:
		return ".restart"
	case 9, 10:
		return ".out"
	case 11, 12:
		return ".graph"
	case 13, 14, 15:
		return ".fail " + digits(int64(n.below(12))-1)
	case 16:
		return ".run " + []string{"0", "1", "2", "2000", "2001", "-1", "999999999"}[n.below(7)]
	case 17:
		return []string{".", ".run", ".run 05", ".fail", ".save 1", ".x", ".out ", "pop", "push", ".fail -0", ".Boot", " dup", "dup 1", ".run 1000000000"}[n.below(14)]
	}
	return ".run " + digits(int64(n.below(200)))
}

// drawnBench is a text of Codes that come to something, and commands between and behind.
func drawnBench(n *numbers) string {
	var codes []impl.Code
	switch n.below(6) {
	case 0:
		codes = wildProgram(n)
	case 1, 2:
		codes = drawnLoopOf(n)
	case 3:
		codes = program(chain()...)
	default:
		all := longPrograms()
		codes = all[n.below(len(all))].codes
	}
	lines := rows(codes)
	for range n.below(4) {
		lines = slices.Insert(lines, n.below(len(lines)+1), drawnCommand(n))
	}
	lines = append(lines, ".boot")
	for len(lines) < 190-n.below(120) {
		lines = append(lines, drawnCommand(n))
		if n.below(30) == 0 {
			lines = append(lines, []string{"", "halt", "push 1", "print"}[n.below(4)])
		}
	}
	return strings.Join(lines, "\n") + []string{"", "\n"}[n.below(2)]
}

// TestBenchesHoldToTheModel has drawn texts: each is answered as the model has it, and so is each that ends somewhere within.
func TestBenchesHoldToTheModel(t *testing.T) {
	t.Parallel()
	n := numbers(186)
	kinds := map[string]int{}
	for range 150 {
		text := drawnBench(&n)
		want := modelAnswers(text)
		if got := impl.Bench(text); got != want {
			t.Fatalf("%q: it answers %q, not %q", text, got, want)
		}
		head := text[:n.below(len(text))]
		if got := impl.Bench(head); got != modelAnswers(head) {
			t.Fatalf("%q: it answers %q, not %q", head, got, modelAnswers(head))
		}
		for _, line := range strings.Split(want, "\n") {
			if !strings.HasPrefix(line, "error") {
				line = digits(int64(min(4, len(strings.Fields(line)))))
			}
			kinds[line]++
		}
	}
	for kind, least := range map[string]int{"error 1": 50, "error 2": 20, "error 4": 50, "error 5": 20, "error 6": 20, "error 7": 5, "0": 100, "1": 1000, "2": 100, "4": 50} {
		if kinds[kind] < least {
			t.Errorf("%d answers are %s: %v", kinds[kind], kind, kinds)
		}
	}
}

// TestHurtBenchesHoldToTheModel has texts in which bytes are changed, put in and left out.
func TestHurtBenchesHoldToTheModel(t *testing.T) {
	t.Parallel()
	n := numbers(187)
	short := strings.Join([]string{"new 3", "save 0", "push 7", "print", ".boot", ".run 2", ".graph", ".scavenge", ".save", ".run 9", ".out", ".fail 1", ".restart", ".compact", ".run -1"}, "\n") + "\n"
	texts := map[string]int{}
	for range 6000 {
		text := []byte(short)
		for range 1 + n.below(3) {
			at, b := n.below(len(text)), "\n .-0123456789abxN\r\t\x00\xff"[n.below(22)]
			switch n.below(3) {
			case 0:
				text[at] = b
			case 1:
				text = slices.Insert(text, at, b)
			default:
				text = slices.Delete(text, at, at+1)
			}
		}
		want := modelAnswers(string(text))
		texts[want]++
		if got := impl.Bench(string(text)); got != want {
			t.Fatalf("%q: it answers %q, not %q", text, got, want)
		}
	}
	if len(texts) < 300 {
		t.Errorf("%d answers are few", len(texts))
	}
}

// TestWhatComesLaterChangesNoAnswer holds the answers of each head of a text against those of the whole.
func TestWhatComesLaterChangesNoAnswer(t *testing.T) {
	t.Parallel()
	n := numbers(188)
	for range 12 {
		text := drawnBench(&n)
		whole := impl.Bench(text)
		lines := strings.SplitAfter(text, "\n")
		for i := range lines {
			head := strings.Join(lines[:i], "")
			if got := impl.Bench(head); !strings.HasPrefix(whole, got) || got != modelAnswersAhead(whole, head) {
				t.Fatalf("%d lines of %q: they answer %q, and the whole %q", i, text, got, whole)
			}
		}
	}
}

// modelAnswersAhead are as many of the answers as the lines have.
func modelAnswersAhead(whole string, head string) string {
	count, codes := 0, 0
	for _, line := range modelLines(head) {
		_, is := modelRead(line)
		switch {
		case line == "":
		case is && codes < 100:
			codes++
		default:
			count++
		}
	}
	return strings.Join(strings.SplitAfter(whole, "\n")[:count], "")
}
