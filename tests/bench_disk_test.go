package tests

import (
	"slices"
	"strings"
	"testing"

	"loop.example/g00140/impl"
)

// TestSaveOnTheBench tells the newest epoch, which is one more each time.
func TestSaveOnTheBench(t *testing.T) {
	wantTalk(t, "a new machine", ".save > 1", ".save > 2", ".save > 3", ".restart > 0", ".save > 4")
	wantTalk(t, "what runs", "push 1", "print", "jump 0", ".boot > ok", ".save > 1", ".run 2 > 0", ".save > 2", ".run 5 > 0", ".save > 3", ".run 0 > 0", ".save > 4", ".out > 1 1")
	wantTalk(t, "what ended", "add", ".boot > ok", ".run 1 > 2", ".save > 1", ".boot > ok", ".run 0 > 0", ".restart > 0", ".run 0 > 2", ".save > 2")
	var many []string
	for epoch := int64(1); epoch <= 99; epoch++ {
		many = append(many, ".save > "+digits(epoch), ".run 1 > 0")
	}
	wantTalk(t, "again and again", slices.Concat([]string{"jump 0", ".boot > ok"}, many)...)
	wantTalk(t, "errors do not save", ".save x > error 1", ".save 1 > error 1", ".Save > error 1", "save > error 2", ".save > 1")
}

// TestSaveThatIsRefused has error 6; the disk stays, and so does the machine.
func TestSaveThatIsRefused(t *testing.T) {
	wantTalk(t, "nothing was saved ahead", slices.Concat(large(), []string{".run 2000 > 0", ".run 400 > 0", ".save > error 6", ".save > error 6", ".graph > 162 1338", ".compact > 1338", ".save > error 6", ".restart > 0", ".graph > 2 58", ".save > 1"})...)
	wantTalk(t, "a save ahead", slices.Concat(large(), []string{".run 31 > 0", ".save > 1", ".run 1969 > 0", ".run 400 > 0", ".save > error 6", ".graph > 162 1338", ".restart > 1", ".graph > 5 82", ".save > 2"})...)
	wantTalk(t, "a fail ahead", slices.Concat(large(), []string{".run 15 > 0", ".save > 1", ".run 15 > 0", ".fail 0 > 1", ".run 1970 > 0", ".run 400 > 0", ".fail 0 > error 6", ".save > error 6", ".restart > 0", ".graph > 3 66"})...)
}

// TestSaveOfAsManyPagesAsThereMayBe has one object more each time, until they are too many.
func TestSaveOfAsManyPagesAsThereMayBe(t *testing.T) {
	t.Parallel()
	saved, refused := 0, 0
	start := impl.RunVm(mustNewVm(t, program(large()[:15]...)), 1500)
	for turns := int64(30); turns <= 50; turns++ {
		answer := "1"
		if len(modelText(impl.RunVm(start, turns*15))) > 6000 {
			answer = "error 6"
			refused++
		} else {
			saved++
		}
		wantTalk(t, digits(100+turns)+" objects", slices.Concat(large(), []string{".run 1500 > 0", ".run " + digits(turns*15) + " > 0", ".save > " + answer, ".fail 0 > " + answer, ".fail 99 > " + answer})...)
	}
	if saved < 3 || refused < 3 {
		t.Errorf("%d are saved, %d refused", saved, refused)
	}
}

// TestFailOnTheBench has each N: the epoch stays, and the machine that is restarted is the one that was saved.
func TestFailOnTheBench(t *testing.T) {
	for _, done := range []int64{0, 1, 2, 3, 4, 5, 29, 30, 31, 32, 200, 2001, 999999999} {
		fail := ".fail " + digits(done)
		wantTalk(t, "nothing was saved", "push 6", "print", ".boot > ok", ".run 1 > 0", fail+" > 0", ".out > ", ".run 1 > 0", ".out > 6", fail+" > 0", ".restart > 0", ".out > ", fail+" > 0", ".save > 1", fail+" > 1")
		wantTalk(t, "one save", "push 6", "print", ".boot > ok", ".run 1 > 0", ".save > 1", ".run 1 > 0", fail+" > 1", ".out > 6", ".restart > 1", ".out > ", ".run 1 > 0", ".out > 6", ".save > 2", fail+" > 2", ".restart > 2", ".out > 6")
		wantTalk(t, "fails in a row", "push 6", "print", "jump 0", ".boot > ok", ".run 2 > 0", ".save > 1", ".run 3 > 0", fail+" > 1", ".run 3 > 0", fail+" > 1", fail+" > 1", ".run 3 > 0", ".out > 6 6 6 6", ".restart > 2", ".out > 6", ".save > 2", ".save > 3", fail+" > 3")
	}
	for _, done := range []int64{-1, -2, -30, -999999999} {
		fail := ".fail " + digits(done) + " > error 6"
		wantTalk(t, "below 0", "push 6", "print", ".boot > ok", fail, ".restart > 0", ".run 1 > 0", ".save > 1", ".run 1 > 0", fail, ".out > 6", ".restart > 1", ".out > ", fail, ".save > 2")
	}
}

// growing is a booted machine that makes a chain of objects of 34 words in 9 ticks each.
func growing() []string {
	return []string{"new 30", "dup", "load 0", "set 0", "dup", "push -1000000000", "set 1", "save 0", "jump 0", ".boot > ok"}
}

// TestFailOfManyPages fails at each write of a save that puts many pages.
func TestFailOfManyPages(t *testing.T) {
	codes := program(growing()[:9]...)
	first, then := impl.RunVm(mustNewVm(t, codes), 90), impl.RunVm(mustNewVm(t, codes), 225)
	pages := len(mustFreeze(t, then))
	if pages < 10 {
		t.Fatalf("%d pages are few", pages)
	}
	text, graph := digits(first.Pc), digits(12)+" "+digits(58+10*34)
	for done := range int64(pages + 3) {
		wantTalk(t, "at write "+digits(done), slices.Concat(growing(), []string{
			".run 90 > 0", ".graph > " + graph, ".save > 1", ".run 135 > 0", ".fail " + digits(done) + " > 1", ".graph > 27 908", ".restart > " + text, ".graph > " + graph,
			".run 135 > 0", ".graph > 27 908", ".fail " + digits(done) + " > 1", ".save > 2", ".fail " + digits(done) + " > 2", ".restart > 0", ".graph > 27 908"})...)
		wantTalk(t, "nothing saved, at write "+digits(done), slices.Concat(growing(), []string{".run 225 > 0", ".fail " + digits(done) + " > 0", ".restart > 0", ".graph > 2 58"})...)
	}
}

// TestRestartOnTheBench tells Pc, on disks of all kinds.
func TestRestartOnTheBench(t *testing.T) {
	wantTalk(t, "a new disk", ".restart > 0", ".run 1 > 1", ".restart > 0", ".run 0 > 0")
	wantTalk(t, "a new disk, with the list's program", "push 4", "print", ".restart > 0", ".run 2 > 0", ".out > 4", ".restart > 0", ".out > ", ".run 9 > 1", ".out > 4")
	wantTalk(t, "a new disk, with what comes behind the boot", "push 4", ".boot > ok", ".run 1 > 0", "print", ".run 1 > 1", ".restart > 0", ".run 2 > 0", ".out > 4")
	wantTalk(t, "behind a save", "push 4", "print", "push 5", "print", ".boot > ok", ".run 2 > 0", ".save > 1", ".run 2 > 0", ".out > 4 5", ".restart > 2", ".out > 4", ".run 2 > 0", ".out > 4 5", ".restart > 2", ".restart > 2", ".out > 4")
	wantTalk(t, "behind some saves", "push 4", "print", "jump 0", ".boot > ok", ".save > 1", ".run 1 > 0", ".save > 2", ".run 1 > 0", ".save > 3", ".restart > 2", ".out > 4", ".run 1 > 0", ".save > 4", ".run 1 > 0", ".restart > 0", ".out > 4")
	wantTalk(t, "at the end of the program", "push 4", "print", ".boot > ok", ".run 2 > 0", ".save > 1", ".boot > ok", ".restart > 2", ".run 0 > 0", ".run 1 > 1", ".save > 2", ".boot > ok", ".restart > 2", ".run 0 > 1")
	for line, state := range map[string]string{"halt": "1", "add": "2", "new 3": "0", "back": "2"} {
		wantTalk(t, "its State", line, ".boot > ok", ".run 1 > "+state, ".save > 1", ".boot > ok", ".restart > "+map[bool]string{true: "0", false: "1"}[state == "2"], ".run 0 > "+state)
	}
}

// TestRestartWithAnotherProgram has a list that went on since the machine was booted, or saved.
func TestRestartWithAnotherProgram(t *testing.T) {
	wantTalk(t, "a longer one", "push 1", "print", ".boot > ok", ".run 3 > 1", ".boot > ok", ".run 2 > 0", ".save > 1", "push 5", "print", ".run 1 > 1", ".out > 1", ".restart > 2", ".run 2 > 0", ".out > 1 5", ".run 1 > 1")
	wantTalk(t, "one that halted stays so", "push 1", "print", ".boot > ok", ".run 3 > 1", ".save > 1", "push 5", "print", ".restart > 2", ".run 9 > 1", ".out > 1")
	wantTalk(t, "one that was saved of no program", ".save > 1", "push 5", "print", ".run 9 > 1", ".out > ", ".restart > 0", ".run 9 > 1", ".out > 5")
	wantTalk(t, "the list as it is at the restart, not behind it", "push 1", "print", ".boot > ok", ".save > 1", ".restart > 0", "push 5", "print", ".run 9 > 1", ".out > 1", ".restart > 0", ".run 9 > 1", ".out > 1 5")
	wantTalk(t, "a list of 100, and a machine of one", slices.Concat([]string{"push 1", ".boot > ok", ".run 1 > 0", ".save > 1"}, slices.Repeat([]string{"dup", "print", "halt"}, 33), []string{"dup > error 3", ".restart > 1", ".run 9 > 1", ".out > 1", ".restart > 1", ".run 1 > 0", ".out > "})...)
}

// TestRestartThatIsRefused has error 7, where what was saved has no room in the old space; the machine stays, and the disk.
func TestRestartThatIsRefused(t *testing.T) {
	full := slices.Concat(chain(), []string{".boot > ok", ".run 2000 > 3", ".graph > 37 2298", ".save > 1"})
	wantTalk(t, "the machine that was saved stays", slices.Concat(full, []string{".restart > error 7", ".graph > 37 2298", ".run 1 > 3", ".restart > error 7", ".save > 2", ".restart > error 7"})...)
	wantTalk(t, "another machine stays", slices.Concat(full, []string{".boot > ok", ".run 12 > 0", ".graph > 4 186", ".restart > error 7", ".graph > 4 186", ".run 1 > 0", ".graph > 5 250", ".restart > error 7", ".graph > 5 250"})...)
	wantTalk(t, "the list stays", slices.Concat(full, []string{"halt", ".restart > error 7", ".run 0 > 3", ".boot > ok", ".run 7 > 0", "print", ".restart > error 7", ".run 7 > 0"})...)
	wantTalk(t, "a save behind it", slices.Concat(full, []string{".boot > ok", ".run 7 > 0", ".restart > error 7", ".save > 2", ".run 1 > 0", ".restart > 1", ".graph > 4 186"})...)
	wantTalk(t, "a fail behind it", slices.Concat(full, []string{".boot > ok", ".fail 0 > 1", ".restart > error 7", ".fail 99 > 1", ".restart > error 7", ".graph > 2 58"})...)
	wantTalk(t, "a save ahead of it", slices.Concat(chain(), []string{".boot > ok", ".run 6 > 0", ".save > 1", ".run 2000 > 3", ".fail 3 > 1", ".restart > 0", ".graph > 3 122", ".run 2000 > 3", ".save > 2", ".restart > error 7"})...)
}

// TestPowerFailsBetweenLines saves, fails and restarts in turn, for as many lines as there may be: the machine is each time the one of the last save.
func TestPowerFailsBetweenLines(t *testing.T) {
	n := numbers(189)
	for range 20 {
		lines := []string{"load 0", "push 1", "add", "dup", "save 0", "print", "jump 0", ".boot > ok"}
		at, saved, epoch := int64(0), int64(0), int64(0)
		for len(lines) < 196 {
			turns := int64(n.below(3))
			if at += turns; at > 299 {
				break
			}
			lines = append(lines, ".run "+digits(7*turns)+" > 0")
			switch n.below(3) {
			case 0:
				epoch, saved = epoch+1, at
				lines = append(lines, ".save > "+digits(epoch))
			case 1:
				lines = append(lines, ".fail "+digits(int64(n.below(5)))+" > "+digits(epoch))
			default:
				at = saved
				lines = append(lines, ".restart > 0", ".out > "+strings.TrimSpace(countTo(at)))
			}
		}
		text, want := talk(lines).parts()
		wantAnswers(t, "power fails", strings.Join(text, ""), strings.Join(want, ""))
	}
}

func countTo(n int64) string {
	out := ""
	for i := range n {
		out += " " + digits(i+1)
	}
	return out
}
