package tests

import (
	"regexp"
	"slices"
	"strconv"
	"strings"
	"testing"

	"loop.example/g00140/impl"
)

// modelBench says the chapter again: a form for commands, and the models of the chapters ahead.
type modelBench struct {
	codes []impl.Code
	vm    impl.Vm
	disk  impl.Disk
}

func modelNewVm(codes []impl.Code) impl.Vm {
	return vmOf(laidHeap(false, nil, []thing{stackThing(1, 0), globalsThing(2, 0)}, nil), 2000, 2044, slices.Clone(codes)...)
}

var commandForm = regexp.MustCompile(`^\.(boot|scavenge|compact|save|restart|out|graph|run (0|-?[1-9][0-9]{0,8})|fail (0|-?[1-9][0-9]{0,8}))\z`)

// modelLines are all lines of a text; none where there are too many, or too many bytes.
func modelLines(text string) []string {
	lines := strings.SplitAfter(text, "\n")
	if lines[len(lines)-1] == "" {
		lines = lines[:len(lines)-1]
	}
	if len(text) > 20000 || len(lines) > 200 {
		return nil
	}
	for i := range lines {
		lines[i] = strings.TrimSuffix(lines[i], "\n")
	}
	return lines
}

func modelAnswers(text string) string {
	b := &modelBench{vm: modelNewVm(nil), disk: impl.NewDisk()}
	out := ""
	for _, line := range modelLines(text) {
		switch {
		case line == "":
		case line[0] != '.':
			out += b.code(line)
		case !commandForm.MatchString(line):
			out += "error 1\n"
		default:
			word, number, _ := strings.Cut(line, " ")
			n, _ := strconv.ParseInt(number, 10, 64)
			out += b.command(word, n) + "\n"
		}
	}
	return out
}

func (b *modelBench) code(line string) string {
	c, is := modelRead(line)
	if !is {
		return "error 2\n"
	}
	if len(b.codes) == 100 {
		return "error 3\n"
	}
	b.codes = append(b.codes, c)
	return ""
}

func (b *modelBench) command(word string, n int64) string {
	switch word {
	case ".boot":
		b.vm = modelNewVm(b.codes)
		return "ok"
	case ".run":
		if !between(0, n, 2000) {
			return "error 4"
		}
		for range n {
			if b.vm.State != 0 {
				break // nothing happens any more
			}
			b.vm = modelStep(b.vm)
		}
		return digits(b.vm.State)
	case ".scavenge":
		then := modelScavenge(b.vm.Heap)
		return b.collected(then.heap, then.is)
	case ".compact":
		then := modelCompact(b.vm.Heap)
		return b.collected(then.heap, then.is)
	case ".save":
		d, _ := modelSave(b.disk, b.vm)
		return b.saved(d)
	case ".fail":
		return b.saved(modelSaveCut(b.disk, b.vm, n, nil, -1))
	case ".restart":
		return b.restarted()
	case ".out":
		return strings.TrimSuffix(lineOf(b.vm.Out...), "\n")
	}
	g, words := modelShape(b.vm.Heap)
	return digits(int64(len(g.Nodes))) + " " + digits(words)
}

func (b *modelBench) collected(h impl.Heap, is bool) string {
	if !is {
		return "error 5"
	}
	b.vm = cloneVm(b.vm)
	b.vm.Heap = h
	used := h.Old + h.Eden - 2000 + h.Surv - 2600
	if h.Flip {
		used -= 300
	}
	return digits(used)
}

func (b *modelBench) saved(d impl.Disk) string {
	if len(d.Sectors) == 0 {
		return "error 6"
	}
	b.disk = d
	newest, _ := modelPages(d)
	return digits(newest.epoch)
}

func (b *modelBench) restarted() string {
	newest, bodies := modelPages(b.disk)
	v, is := modelThaw(bodies, slices.Clone(b.codes))
	if newest.epoch == 0 {
		v, is = modelNewVm(b.codes), true
	}
	if !is {
		return "error 7"
	}
	b.vm = v
	return digits(v.Pc)
}

// wantAnswers fails unless the text is answered by just this, the model's answer, too.
func wantAnswers(t *testing.T, name string, text string, want string) {
	t.Helper()
	defer noPanic(t, name)
	if got := impl.Bench(text); got != want {
		t.Errorf("%s: it answers %q, not %q", name, got, want)
	}
	if got := modelAnswers(text); got != want {
		t.Errorf("%s: the model has it %q, not %q", name, got, want)
	}
}

// talk is rows of a line each, with > and its answer behind it where it has one.
type talk []string

// parts are the lines, and the answers, each with a byte 10.
func (rows talk) parts() ([]string, []string) {
	var lines, answers []string
	for _, row := range rows {
		line, answer, told := strings.Cut(row, " > ")
		if told {
			answer += "\n"
		}
		lines, answers = append(lines, line+"\n"), append(answers, answer)
	}
	return lines, answers
}

// wantTalk fails unless each line is answered as its row tells, whatever comes behind it, whether the last one has its byte 10, and with lines without a byte between.
func wantTalk(t *testing.T, name string, rows ...string) {
	t.Helper()
	lines, answers := talk(rows).parts()
	text, want := strings.Join(lines, ""), strings.Join(answers, "")
	wantAnswers(t, name, text, want)
	for i := range lines {
		text, want := strings.Join(lines[:i], ""), strings.Join(answers[:i], "")
		for _, end := range []string{"", "\n"} {
			if got := impl.Bench(strings.TrimSuffix(text, "\n") + end); got != want {
				t.Fatalf("%s, %d lines: it answers %q, not %q", name, i, got, want)
			}
		}
	}
	if 2*len(lines)+1 <= 200 {
		wantAnswers(t, name+", with lines between", "\n"+strings.Join(lines, "\n")+"\n", want)
	}
}

// rows are Codes of a program as rows of a talk.
func rows(codes []impl.Code) []string {
	var out []string
	for _, c := range codes {
		line, _ := modelShow(c)
		out = append(out, line)
	}
	return out
}
