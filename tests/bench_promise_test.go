package tests

import (
	"slices"
	"strconv"
	"strings"
	"testing"

	"loop.example/g00140/impl"
)

// listed is a program that builds a list of 30, of objects that have 20 fields, goes through it, prints the sum of what is in it and halts.
func listed() []string {
	return append(rows(longPrograms()[0].codes[:38]), "halt")
}

// TestAListIsSummedWhateverIsBetween collects, saves, fails and restarts at each moment in turn.
func TestAListIsSummedWhateverIsBetween(t *testing.T) {
	t.Parallel()
	head := strings.Join(append(listed(), ".boot"), "\n") + "\n"
	end := ".run 2000\n.graph\n.compact\n.restart\n.run 2000\n.out\n.run 1\n"
	const then = "1\n32 778\n778\n"
	for ticks := int64(0); ticks < 860; ticks += 7 {
		text := head + ".run " + digits(ticks) + "\n"
		for i, between := range []string{
			"", ".scavenge\n", ".compact\n", ".scavenge\n.scavenge\n.scavenge\n.scavenge\n", ".compact\n.scavenge\n.compact\n", ".save\n.restart\n", ".save\n.run 40\n.restart\n",
			".save\n.run 33\n.fail 0\n.restart\n", ".save\n.run 90\n.fail 2\n.run 5\n.fail 9\n.restart\n", ".scavenge\n.save\n.boot\n.run 3\n.restart\n.compact\n", ".fail 1\n", ".save\n.compact\n.fail 3\n.restart\n.save\n.scavenge\n.fail 2\n.restart\n",
		} {
			out := impl.Bench(text + between + end)
			lines := strings.Split(out, "\n")
			tail := strings.Join(lines[len(lines)-8:], "\n")
			// The last restart is a new machine, or one that was saved.
			if pc := lines[len(lines)-5]; tail != then+pc+"\n1\n435\n1\n" {
				t.Fatalf("tick %d, way %d: it answers %q", ticks, i, out)
			}
		}
	}
}

// TestAListIsSummedThroughAll does so again and again on one bench, seven ticks at a time.
func TestAListIsSummedThroughAll(t *testing.T) {
	for i, ways := range [][]string{
		{".scavenge"}, {".compact"}, {".scavenge", ".compact"}, {".save", ".restart"}, {".save", ".fail 1", ".restart"}, {".save", ".run 9", ".restart"}, {".save", ".run 30", ".fail 4", ".restart"},
		{".compact", ".save", ".run 1", ".scavenge", ".restart"}, {".fail 2", ".save", ".fail 0", ".run 70", ".restart", ".scavenge"}, {".save", ".boot", ".run 11", ".fail 5", ".restart"}, {".save", ".compact", ".fail 999999999", ".restart", ".fail -1", ".run 2001", ".x", "pop"},
	} {
		lines := append(listed(), ".boot")
		each := 7 * (1 + len(ways))
		for ticks := 0; ticks < 900; ticks += each {
			lines = append(lines, ".run "+strconv.Itoa(each))
			lines = append(lines, ways...)
		}
		lines = append(lines, ".out", ".graph", ".run 1")
		if len(lines) > 200 {
			t.Fatalf("way %d: the test's own text has %d lines", i, len(lines))
		}
		if out := impl.Bench(strings.Join(lines, "\n")); !strings.HasSuffix(out, "\n435\n32 778\n1\n") {
			t.Errorf("way %d: it answers %q", i, out)
		}
	}
}

// moment is what a machine without a heap tells after so many ticks.
type moment struct {
	pc    int64
	state int64
	out   string
	nodes int
	words int64
	bytes int
}

func momentsOf(codes []impl.Code, total int) []moment {
	d := newDream(codes)
	var all []moment
	for range total + 1 {
		g := d.graph()
		m := moment{pc: d.pc, state: d.state, out: strings.TrimSuffix(lineOf(d.out...), "\n"), nodes: len(g.Nodes)}
		text := lineOf(d.pc, d.state, d.hash) + lineOf(append([]int64{int64(len(d.out))}, d.out...)...)
		for _, x := range g.Nodes {
			m.words += int64(4 + len(x.Fields))
			text += lineOf(append([]int64{x.Class, x.Hash}, x.Fields...)...)
		}
		m.bytes = len(text)
		all = append(all, m)
		d.tick()
	}
	return all
}

// dreamed is a row of commands with their answers, told by moments alone: a star where only a heap could tell them.
type dreamed struct {
	moments []moment
	at      int
	saved   int
	epoch   int64
}

func (d *dreamed) one(n *numbers) (string, string) {
	now := d.moments[d.at]
	switch n.below(12) {
	case 0, 1:
		return ".scavenge", "*"
	case 2:
		if now.words > 2000 {
			return ".compact", "error 5"
		}
		return ".compact", digits(now.words)
	case 3, 4:
		if now.bytes > 6000 {
			return ".save", "error 6"
		}
		d.saved, d.epoch = d.at, d.epoch+1
		return ".save", digits(d.epoch)
	case 5:
		if now.bytes > 6000 {
			return ".fail 3", "error 6"
		}
		return ".fail " + strconv.Itoa(n.below(9)), digits(d.epoch)
	case 6:
		return d.restart()
	case 7:
		return ".out", now.out
	case 8:
		return ".graph", strconv.Itoa(now.nodes) + " " + digits(now.words)
	}
	ticks := min(n.below(60), len(d.moments)-1-d.at)
	d.at += ticks
	return ".run " + strconv.Itoa(ticks), digits(d.moments[d.at].state)
}

func (d *dreamed) restart() (string, string) {
	if d.epoch > 0 && d.moments[d.saved].words > 2000 {
		return ".restart", "error 7"
	}
	d.at = d.saved
	return ".restart", digits(d.moments[d.at].pc)
}

// TestBenchesWithoutAHeap holds the bench against a machine that has no heap, no collector and no disk: what it comes to hangs on the ticks alone.
func TestBenchesWithoutAHeap(t *testing.T) {
	t.Parallel()
	n := numbers(190)
	stars, done := 0, 0
	for i, v := range drawnVms(t, &n, 12, 30) {
		total := 1200
		if end := impl.RunVm(v, int64(total)); i == 6 || end.State == 3 && len(end.Out) < 300 {
			continue // the heap is full, which the one without a heap never is
		}
		moments := momentsOf(v.Program, total)
		for range 4 {
			d := &dreamed{moments: moments}
			lines, want := append(rows(v.Program), ".boot"), []string{"ok"}
			for len(lines) < 195 {
				line, answer := d.one(&n)
				lines, want = append(lines, line), append(want, answer)
			}
			text := strings.Join(lines, "\n") + "\n"
			got := strings.Split(strings.TrimSuffix(impl.Bench(text), "\n"), "\n")
			for k, answer := range got {
				if k < len(want) && want[k] == "*" {
					want[k] = answer
					stars++
				}
			}
			if !slices.Equal(got, want) {
				t.Fatalf("%q: it answers %q, not %q", text, got, want)
			}
			done += len(want)
		}
	}
	if done < 10000 || stars < 1000 {
		t.Errorf("%d answers, %d of them not told", done, stars)
	}
}

// TestBenchTellsWhatTheChaptersTell does line by line what the other functions do, and asks them.
func TestBenchTellsWhatTheChaptersTell(t *testing.T) {
	n := numbers(191)
	for range 60 {
		text := drawnBench(&n)
		lines := modelLines(text)
		var codes []impl.Code
		v, d := mustNewVm(t, nil), impl.NewDisk()
		want := ""
		for _, line := range lines {
			word, number, _ := strings.Cut(line, " ")
			ticks, _ := strconv.ParseInt(number, 10, 64)
			c, isCode := impl.ReadCode(line)
			switch {
			case line == "":
			case line[0] != '.':
				if isCode && len(codes) < 100 {
					codes = append(codes, c)
				} else {
					want += map[bool]string{true: "error 3\n", false: "error 2\n"}[isCode]
				}
			case !commandForm.MatchString(line):
				want += "error 1\n"
			default:
				var answer string
				v, d, answer = chapterByChapter(t, v, d, codes, word, ticks)
				want += answer + "\n"
			}
		}
		if got := impl.Bench(text); got != want {
			t.Fatalf("%q: it answers %q, not %q", text, got, want)
		}
	}
}

func chapterByChapter(t *testing.T, v impl.Vm, d impl.Disk, codes []impl.Code, word string, n int64) (impl.Vm, impl.Disk, string) {
	t.Helper()
	switch word {
	case ".boot":
		return mustNewVm(t, codes), d, "ok"
	case ".run":
		then := impl.RunVm(v, n)
		if isZeroVm(then) {
			return v, d, "error 4"
		}
		return then, d, digits(then.State)
	case ".scavenge", ".compact":
		then, is := impl.Collect(v, word == ".compact")
		if !is {
			return v, d, "error 5"
		}
		return then, d, digits(impl.Reached(then.Heap) + impl.Garbage(then.Heap))
	case ".save", ".fail":
		then, _ := impl.Save(d, v)
		if word == ".fail" {
			then = impl.SaveCut(d, v, n, nil, -1)
		}
		if isZeroDisk(then) {
			return v, d, "error 6"
		}
		epoch, _ := impl.Newest(then)
		return v, then, digits(epoch)
	case ".restart":
		then, is := impl.Restart(d, codes)
		if !is {
			return v, d, "error 7"
		}
		return then, d, digits(then.Pc)
	case ".out":
		out, _ := impl.Result(v)
		return v, d, strings.TrimSuffix(lineOf(out...), "\n")
	}
	return v, d, strconv.Itoa(len(impl.Shape(v.Heap).Nodes)) + " " + digits(impl.Reached(v.Heap))
}
