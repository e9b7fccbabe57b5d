package tests

import (
	"strings"
	"sync"
	"testing"
	"unsafe"

	"loop.example/g00140/impl"
)

// benchTexts are texts of all kinds: such that are answered, and such that are not.
func benchTexts() []string {
	n := numbers(196)
	out := []string{"", "\n", ".", ".out", ".boot\n", "push 1\n", "pop", strings.Repeat("x", 20000), strings.Repeat("x", 20001), strings.Repeat(".graph\n", 200), strings.Repeat(".graph\n", 201)}
	for range 30 {
		out = append(out, drawnBench(&n))
	}
	return out
}

// TestBenchAnswersAreNewMemory holds an answer against the text, and against the answer to the same text again.
func TestBenchAnswersAreNewMemory(t *testing.T) {
	for _, text := range benchTexts() {
		first, second := impl.Bench(text), impl.Bench(text)
		if first != second {
			t.Fatalf("%q: asked again it answers another thing", text)
		}
		if len(first) > 1 && (sharesBytes(first, text) || sharesBytes(first, second)) {
			t.Errorf("%q: the answer shares memory", text)
		}
	}
}

// TestBenchKeepsNoText has a text whose bytes are others later: the answer stays.
func TestBenchKeepsNoText(t *testing.T) {
	for _, text := range benchTexts() {
		if text == "" {
			continue
		}
		bytes := []byte(text)
		out := impl.Bench(unsafe.String(&bytes[0], len(bytes)))
		if string(bytes) != text {
			t.Fatalf("%q: the text was changed", text)
		}
		was := strings.Clone(out)
		for i := range bytes {
			bytes[i] = 'z'
		}
		if out != was || out != impl.Bench(text) {
			t.Errorf("%q: the answer changed with the text", text)
		}
	}
}

// TestBenchesKeepNothing asks for others between: each bench begins anew.
func TestBenchesKeepNothing(t *testing.T) {
	const text = ".out\n.graph\n.restart\n.run 1\n.fail 0\n.save\n"
	const want = "\n2 58\n0\n1\n0\n1\n"
	for _, other := range benchTexts() {
		before := impl.Bench(other)
		wantAnswers(t, "a new bench", text, want)
		if got := impl.Bench(other); got != before {
			t.Errorf("%q: it answers another thing now", other)
		}
	}
}

func TestBenchesAskedByManyAtOnce(t *testing.T) {
	texts := benchTexts()
	var want []string
	for _, text := range texts {
		want = append(want, impl.Bench(text))
	}
	var all sync.WaitGroup
	for k := range 8 {
		all.Go(func() {
			for i := range texts {
				at := (i + k) % len(texts)
				if got := impl.Bench(texts[at]); got != want[at] {
					t.Errorf("%q: it answers another thing", texts[at])
				}
			}
		})
	}
	all.Wait()
}

// TestTheLongestBenches come to an end: each line runs for as long as one may.
func TestTheLongestBenches(t *testing.T) {
	t.Parallel()
	for _, codes := range [][]string{
		{"new 60", "drop", "jump 0"}, {"new 0", "save 0", "new 0", "save 1", "load 0", "load 1", "become", "jump 4"}, {"jump 0"}, {"push 1", "drop", "jump 0"}, {"call 2", "halt", "call 4", "back", "back", "jump 0"},
	} {
		head := strings.Join(append(codes, ".boot"), "\n") + "\n"
		count := 100 - len(codes)
		out := impl.Bench(head + strings.Repeat(".run 2000\n", count))
		state := out[len(out)-2:]
		if !strings.HasPrefix(out, "ok\n") || strings.Count(out, "\n") != count+1 || state == "3\n" {
			t.Errorf("%q: it answers %q", codes, out)
		}
	}
}
