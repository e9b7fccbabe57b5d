package tests

import (
	"slices"
	"strings"
	"testing"
)

func TestBenchesWritten(t *testing.T) {
	wantTalk(t, "the first one",
		"new 3", "save 0", "push 7", "print", "pop > error 2", ".boot > ok", ".run 2 > 0", ".graph > 3 65", ".scavenge > 65", ".save > 1",
		".run 9 > 1", ".out > 7", ".restart > 2", ".run 9 > 1", ".out > 7", ".run -1 > error 4", ".x > error 1")
	wantTalk(t, "commands alone",
		".out > ", ".graph > 2 58", ".run 0 > 0", ".scavenge > 58", ".compact > 58", ".save > 1", ".fail 0 > 1", ".restart > 0", ".run 1 > 1", ".boot > ok", ".run 1 > 1")
	wantTalk(t, "no line")
	wantTalk(t, "Codes alone", "push 1", "push -1000000000", "halt")
	wantTalk(t, "one of each", ".boot > ok")
	wantTalk(t, "one wrong line", "pop > error 2")
	wantTalk(t, "one wrong command", ".pop > error 1")
}

// TestBoot is NewVm of the list as it is then.
func TestBoot(t *testing.T) {
	wantTalk(t, "of an empty list", ".boot > ok", ".graph > 2 58", ".run 1 > 1", ".out > ", ".boot > ok", ".run 0 > 0", ".run 1 > 1")
	wantTalk(t, "what comes behind the boot is not the machine's",
		"push 1", "print", ".boot > ok", "push 2", "print", ".run 9 > 1", ".out > 1", ".boot > ok", ".out > ", ".run 9 > 1", ".out > 1 2")
	wantTalk(t, "nothing was booted", "push 1", "print", ".run 9 > 1", ".out > ", ".boot > ok", ".run 9 > 1", ".out > 1")
	wantTalk(t, "anew in the midst",
		"new 3", "save 0", "push 5", "print", "halt", ".boot > ok", ".run 4 > 0", ".out > 5", ".graph > 3 65", ".scavenge > 65",
		".boot > ok", ".out > ", ".graph > 2 58", ".run 1 > 0", ".graph > 3 65", ".run 9 > 1", ".out > 5", ".boot > ok", ".run 0 > 0")
	wantTalk(t, "again and again", "push 3", "print", ".boot > ok", ".boot > ok", ".run 3 > 1", ".boot > ok", ".boot > ok", ".run 2 > 0", ".out > 3", ".run 1 > 1")
	wantTalk(t, "behind a machine that is stuck", "add", ".boot > ok", ".run 5 > 2", ".boot > ok", ".run 0 > 0", ".run 1 > 2")
	wantTalk(t, "the disk stays", "push 3", "drop", ".boot > ok", ".run 1 > 0", ".save > 1", ".boot > ok", ".save > 2", ".run 2 > 0", ".save > 3", ".boot > ok", ".restart > 2")
}

// TestBootOfAFullList has as many Codes as there may be, and the machine does them all.
func TestBootOfAFullList(t *testing.T) {
	codes := slices.Repeat([]string{"push 1", "drop"}, 50)
	wantTalk(t, "drops", slices.Concat(codes, []string{".boot > ok", ".run 99 > 0", ".graph > 2 58", ".run 1 > 0", ".run 1 > 1"})...)
	codes[98], codes[99] = "push 9", "print"
	wantTalk(t, "a print at the end", slices.Concat(codes, []string{".boot > ok", ".run 99 > 0", ".out > ", ".run 1 > 0", ".out > 9", ".run 1 > 1", "halt > error 3", ".boot > ok", ".run 101 > 1", ".out > 9"})...)
}

// TestRun has each State, and each end of N.
func TestRun(t *testing.T) {
	loop := []string{"push 1", "drop", "jump 0", ".boot > ok"}
	wantTalk(t, "N at its ends", slices.Concat(loop, []string{
		".run 0 > 0", ".run 1 > 0", ".run 1999 > 0", ".run 2000 > 0", ".run 2001 > error 4", ".run 2002 > error 4", ".run 999999999 > error 4",
		".run -1 > error 4", ".run -2000 > error 4", ".run -999999999 > error 4", ".run 2000 > 0", ".out > "})...)
	wantTalk(t, "halted", "halt", "push 1", ".boot > ok", ".run 1 > 1", ".run 1 > 1", ".run 2000 > 1", ".run 0 > 1", ".run 2001 > error 4", ".run -1 > error 4", ".graph > 2 58")
	wantTalk(t, "at the end", "push 1", ".boot > ok", ".run 1 > 0", ".run 1 > 1", ".run 0 > 1")
	wantTalk(t, "stuck", "push 1", "add", "push 1", ".boot > ok", ".run 1 > 0", ".run 1 > 2", ".run 1 > 2", ".run 2000 > 2", ".run 0 > 2", ".run 2001 > error 4")
	wantTalk(t, "full of numbers", "push 8", "print", "jump 0", ".boot > ok", ".run 898 > 0", ".run 3 > 0", ".run 1 > 3", ".run 1 > 3", ".run 0 > 3", ".run -1 > error 4")
	wantTalk(t, "full of objects", slices.Concat(chain(), []string{".boot > ok", ".run 2000 > 3", ".run 2000 > 3", ".run 0 > 3", ".run 2001 > error 4"})...)
	wantTalk(t, "on from where it ended",
		"push 1", "print", "push 2", "print", "push 3", "print", ".boot > ok", ".run 1 > 0", ".out > ", ".run 1 > 0", ".out > 1", ".run 3 > 0", ".out > 1 2", ".run 0 > 0", ".out > 1 2", ".run 1 > 0", ".out > 1 2 3", ".run 1 > 1", ".out > 1 2 3")
}

// chain is a program that makes objects of 64 words, of which each one has the one ahead, until there is no room.
func chain() []string { return []string{"new 60", "dup", "load 0", "set 0", "save 0", "jump 0"} }

// TestRunOfManyAndOfOne comes to the same, however the ticks are parted.
func TestRunOfManyAndOfOne(t *testing.T) {
	codes := []string{"new 3", "dup", "hash", "print", "save 0", "jump 0", ".boot > ok"}
	once := slices.Concat(codes, []string{".run 60 > 0", ".out > 3 4 5 6 7 8 9 10 11 12", ".graph > 3 65"})
	wantTalk(t, "at once", once...)
	parted := slices.Concat(codes, slices.Repeat([]string{".run 1 > 0"}, 60), once[len(once)-2:])
	wantTalk(t, "one by one", parted...)
	parted = slices.Concat(codes, slices.Repeat([]string{".run 7 > 0", ".run 0 > 0"}, 8), []string{".run 4 > 0"}, once[len(once)-2:])
	wantTalk(t, "seven by seven", parted...)
}

// TestCollectors tell the words that are used in all three spaces.
func TestCollectors(t *testing.T) {
	wantTalk(t, "garbage", "new 20", "drop", "new 9", "save 0", ".boot > ok", ".run 2 > 0", ".graph > 2 58", ".scavenge > 58", ".run 2 > 0", ".graph > 3 71", ".scavenge > 71", ".compact > 71", ".graph > 3 71", ".run 1 > 1")
	wantTalk(t, "compacted first", "new 20", "drop", "new 9", "save 0", ".boot > ok", ".run 2 > 0", ".compact > 58", ".run 2 > 0", ".compact > 71", ".scavenge > 71", ".run 1 > 1")
	wantTalk(t, "ahead of a run", "push 1", "print", ".boot > ok", ".scavenge > 58", ".run 1 > 0", ".compact > 58", ".run 2 > 1", ".out > 1", ".scavenge > 58", ".compact > 58")
	// What is old by now is garbage that a scavenge leaves there.
	wantTalk(t, "old garbage", "new 9", "save 0", "push 0", "save 0", ".boot > ok", ".run 2 > 0", ".scavenge > 71", ".scavenge > 71", ".scavenge > 71", ".run 2 > 0", ".graph > 2 58", ".scavenge > 71", ".scavenge > 71", ".compact > 58", ".scavenge > 58")
	// Objects in all three spaces: the old ones, one among the survivors, one in eden.
	wantTalk(t, "three spaces",
		"new 9", "save 0", "new 8", "save 1", "new 7", "save 2", "new 6", "drop", ".boot > ok", ".run 2 > 0", ".scavenge > 71", ".scavenge > 71", ".scavenge > 71",
		".run 2 > 0", ".scavenge > 83", ".run 2 > 0", ".graph > 5 94", ".run 2 > 0", ".graph > 5 94", ".scavenge > 94", ".graph > 5 94", ".scavenge > 94", ".compact > 94")
}

// TestCollectorsWithoutRoom have error 5, and the machine stays.
func TestCollectorsWithoutRoom(t *testing.T) {
	full := []string{".run 2000 > 3", ".scavenge > error 5", ".graph > 38 2362", ".compact > error 5", ".graph > 38 2362", ".run 1 > 3", ".scavenge > error 5", ".out > ", ".boot > ok", ".scavenge > 58", ".compact > 58"}
	wantTalk(t, "behind the run in which it is full", slices.Concat(chain(), []string{".boot > ok", ".scavenge > 58"}, full)...)
	// The old space has no room for all, while the survivors have some still.
	wantTalk(t, "ahead of that", slices.Concat(chain(), []string{".boot > ok", ".compact > 58", ".run 185 > 0", ".graph > 33 2042", ".compact > error 5", ".graph > 33 2042", ".scavenge > 2042", ".graph > 33 2042", ".compact > error 5", ".run 2 > 0", ".graph > 34 2106", ".compact > error 5", ".run 2000 > 3", ".graph > 42 2618", ".scavenge > error 5", ".compact > error 5", ".graph > 42 2618"})...)
	one := []string{"new 18", "save 9", "new 60", "dup", "load 0", "set 0", "save 0", "jump 2", ".boot > ok", ".run 182 > 0"}
	wantTalk(t, "just as much as there is room for", slices.Concat(one, []string{".graph > 33 2000", ".compact > 2000", ".graph > 33 2000", ".compact > 2000", ".scavenge > 2000"})...)
	one[0] = "new 19"
	wantTalk(t, "a word more", slices.Concat(one, []string{".graph > 33 2001", ".compact > error 5", ".graph > 33 2001", ".scavenge > 2001", ".compact > error 5", ".scavenge > 2001"})...)
}

// TestOut has none, one and many numbers, of all lengths.
func TestOut(t *testing.T) {
	wantTalk(t, "none", ".out > ", ".boot > ok", ".out > ", ".out > ")
	wantTalk(t, "one", "push 0", "print", ".boot > ok", ".out > ", ".run 2 > 0", ".out > 0", ".out > 0")
	wantTalk(t, "two", "push -1000000000", "print", "push 1000000000", "print", ".boot > ok", ".run 2 > 0", ".out > -1000000000", ".run 3 > 1", ".out > -1000000000 1000000000")
	count := []string{"load 0", "push 1", "add", "dup", "save 0", "print", "jump 0", ".boot > ok", ".run 2000 > 0", ".run 2000 > 3"}
	want := ""
	for i := range int64(300) {
		want += " " + digits(i+1)
	}
	wantTalk(t, "300", append(count, ".out >"+want, ".run 9 > 3", ".out >"+want)...)
	wantTalk(t, "of each length", "push 1", "save 0", "load 0", "print", "load 0", "dup", "add", "save 0", "jump 2", ".boot > ok", ".run 207 > 0",
		".out > 1 2 4 8 16 32 64 128 256 512 1024 2048 4096 8192 16384 32768 65536 131072 262144 524288 1048576 2097152 4194304 8388608 16777216 33554432 67108864 134217728 268435456 536870912", ".run 9 > 2")
}

// TestGraph tells what is reached, not what lies there.
func TestGraph(t *testing.T) {
	wantTalk(t, "none was made", ".graph > 2 58", ".boot > ok", ".graph > 2 58")
	wantTalk(t, "garbage", "new 60", "drop", "new 60", "drop", ".boot > ok", ".run 1 > 0", ".graph > 3 122", ".run 1 > 0", ".graph > 2 58", ".run 2 > 0", ".graph > 2 58", ".compact > 58", ".graph > 2 58")
	wantTalk(t, "rings", "new 2", "dup", "save 0", "dup", "dup", "set 1", "new 0", "set 0", "push 0", "save 0", ".boot > ok", ".run 1 > 0", ".graph > 3 64", ".run 5 > 0", ".graph > 3 64", ".run 1 > 0", ".graph > 4 68", ".run 1 > 0", ".graph > 4 68", ".run 2 > 0", ".graph > 2 58")
	wantTalk(t, "the same one twice", "new 5", "dup", "save 1", "save 2", ".boot > ok", ".run 4 > 0", ".graph > 3 67")
	wantTalk(t, "two become each other", "new 5", "save 0", "new 1", "save 1", "load 0", "load 1", "become", "push 0", "save 0", ".boot > ok", ".run 7 > 0", ".graph > 4 72", ".run 2 > 0", ".graph > 3 67")
}

// TestCodesAreNotAnswered has a Code of each Op at each end of N.
func TestCodesAreNotAnswered(t *testing.T) {
	codes := rows(endCodes())
	for i, line := range codes {
		wantTalk(t, line, line, ".boot > ok", ".out > ")
		wantAnswers(t, line+", without its byte 10", line, "")
		wantAnswers(t, line+", with more ahead", codes[(i+5)%len(codes)]+"\n"+line, "")
	}
	if len(codes) < 40 || len(codes) > 100 {
		t.Fatalf("%d Codes at the ends", len(codes))
	}
	wantAnswers(t, "all of them", strings.Join(codes, "\n"), "")
}
