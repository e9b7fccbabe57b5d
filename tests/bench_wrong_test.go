package tests

import (
	"slices"
	"strings"
	"testing"

	"loop.example/g00140/impl"
)

var bareCommands = []string{".boot", ".scavenge", ".compact", ".save", ".restart", ".out", ".graph"}

var numberCommands = []string{".run", ".fail"}

// wantCommandWrong fails unless the line is no command, alone and behind others.
func wantCommandWrong(t *testing.T, line string) {
	t.Helper()
	for _, end := range []string{"", "\n"} {
		wantAnswers(t, "no command", line+end, "error 1\n")
		wantAnswers(t, "no command, between others", ".boot\n"+line+"\n.graph"+end, "ok\nerror 1\n2 58\n")
	}
}

func TestFirstWordsThatAreNone(t *testing.T) {
	for _, line := range []string{
		".", ". ", ".  ", "..", "...", ".x", ".\t", ".\r", ".\x00", ".\xff", ".\u00e9", ". boot", ".  boot", "..boot", ". .boot", ".boot.", ".1", ".-1", ".0", ". 1", ". 5 5",
		".push 1", ".halt", ".new", ".load", ".boot5", ".run5", ".fail0", ".run-1", ".load 5", ".saved", ".start", ".stop", ".quit", ".help", ".error 1", ".collect", ".tick", ".hold", ".crash",
	} {
		wantCommandWrong(t, line)
	}
}

// TestWordsThatAreNearlyOne has each part of a first word, each one that goes on, and such with capital letters.
func TestWordsThatAreNearlyOne(t *testing.T) {
	all := slices.Concat(bareCommands, numberCommands)
	for _, word := range all {
		behind := ""
		if slices.Contains(numberCommands, word) {
			behind = " 1"
		}
		for i := range len(word) {
			if i > 0 {
				wantCommandWrong(t, word[:i]+behind)
				wantCommandWrong(t, "."+word[i+1:]+behind)
				wantCommandWrong(t, word[:i]+strings.ToUpper(word[i:i+1])+word[i+1:]+behind)
				wantCommandWrong(t, word[:i]+" "+word[i:]+behind)
			}
			wantCommandWrong(t, word[:i+1]+"x"+word[i+1:]+behind)
		}
		for _, more := range []string{"s", "e", ".", "_", "-", "\t", "\r", "\v", "\f", "\x00", "\xff", "\u00a0", "\u2003", "\ufeff", "boot", word} {
			wantCommandWrong(t, word+more+behind)
		}
		wantCommandWrong(t, strings.ToUpper(word)+behind)
	}
}

// TestWordsTooManyAndTooFew has blanks, too: behind the last word, behind the point, two between.
func TestWordsTooManyAndTooFew(t *testing.T) {
	for _, word := range bareCommands {
		for _, more := range []string{" ", "  ", " 0", " 1", " -1", " 5 5", " x", " " + word, "  1", " 1 ", "\t", "\t1"} {
			wantCommandWrong(t, word+more)
		}
	}
	for _, word := range numberCommands {
		for _, more := range []string{"", " ", "  ", "   ", "  5", " 5 ", " 5  ", "   5", " 5 5", " 5 x", " 5 5 5", "\t5", " \t5", " 5\t", " 5\r", " " + word, " " + word + " 5", " .out", "5", "-5", ".5", ";5", ",5"} {
			wantCommandWrong(t, word+more)
		}
	}
}

func TestNumbersThatAreNone(t *testing.T) {
	for _, word := range numberCommands {
		for _, number := range wrongNumbers {
			if !strings.Contains(number, "\n") {
				wantCommandWrong(t, word+" "+number)
			}
		}
		for _, number := range []string{
			"1000000000", "9999999999", "-1000000000", "-9999999999", "0000000000", "0000000001", "-0000000001", "4294967296", "9223372036854775807", "9223372036854775808", "-9223372036854775808",
			"18446744073709551616", "18446744073709551617", "99999999999999999999", strings.Repeat("9", 300), "1" + strings.Repeat("0", 300), strings.Repeat("0", 300),
		} {
			wantCommandWrong(t, word+" "+number)
		}
	}
}

// TestNumbersOfNineDigits are numbers, however far they are.
func TestNumbersOfNineDigits(t *testing.T) {
	for _, n := range []int64{999999999, 100000000, 10000000, 2001, 100000, -1, -9, -10, -2000, -999999999, -100000000} {
		wantTalk(t, "far", ".boot > ok", ".run "+digits(n)+" > error 4", ".run 1 > 1")
		if n > 0 {
			wantTalk(t, "far", ".save > 1", ".fail "+digits(n)+" > 1", ".restart > 0")
		} else {
			wantTalk(t, "far", ".save > 1", ".fail "+digits(n)+" > error 6", ".restart > 0")
		}
	}
}

// TestLinesThatAreNoCode has all kinds of lines that do not begin with a point.
func TestLinesThatAreNoCode(t *testing.T) {
	lines := []string{
		" ", "  ", "\t", "\r", "\x00", "\xff", "\u00e9", " .boot", "\t.boot", " .", "x", "boot", "run 5", "\u2026", "\uff0eboot", "-.boot", "pop", "ok", "error 2", "push", "push ", "push 1 ", " push 1", "push  1", "push 1 1", "push 01", "push -0", "push +1",
		"push 1000000001", "push -1000000001", "push 10000000000", "load 10", "load -1", "load", "save 10", "save -1", "save", "new 61", "new -1", "new", "get 60", "get -1", "set 60", "set -1", "jump 101", "jump -1", "zero 101", "zero -1", "call 101", "call -1",
		"add 0", "sub 0", "less 1", "dup 0", "drop 1", "print 7", "hash 0", "halt 0", "swap 1", "become 0", "back 0", "dup ", " dup", "Dup", "DUP", "dup\r", "dup\t", "dup\x00", "dups", "du", "dup dup", "halt.", "halt .boot", "push .5", strings.Repeat("dup", 1000),
	}
	for _, f := range codeForms() {
		for _, number := range wrongNumbers {
			if !strings.Contains(number, "\n") && f.told {
				lines = append(lines, f.word+" "+number)
			}
		}
		lines = append(lines, strings.ToUpper(f.word), f.word+"x", f.word+" x", f.word+"  1", " "+f.word)
	}
	for _, line := range lines {
		for _, end := range []string{"", "\n"} {
			wantAnswers(t, "no Code", line+end, "error 2\n")
			wantAnswers(t, "no Code, between others", "push 5\n"+line+"\nprint\n.boot\n.run 2\n"+line+"\n.out"+end, "error 2\nok\n0\nerror 2\n5\n")
		}
	}
}

// TestOneCodeTooMany has error 3 for each Code that the list has no room for, which stays as it is; what is no Code is error 2 still.
func TestOneCodeTooMany(t *testing.T) {
	full := slices.Concat(slices.Repeat([]string{"push 1", "drop"}, 49), []string{"push 6", "print"})
	wantTalk(t, "one more", slices.Concat(full, []string{"halt > error 3", ".boot > ok", ".run 99 > 0", ".run 1 > 0", ".out > 6", ".run 1 > 1"})...)
	wantTalk(t, "some more", slices.Concat(full, []string{"push 7 > error 3", "print > error 3", "pop > error 2", "push > error 2", ".pop > error 1", "push 7 > error 3", ".boot > ok", "halt > error 3", ".run 200 > 1", ".out > 6", ".boot > ok", "halt > error 3"})...)
	for _, line := range rows(endCodes()) {
		wantAnswers(t, line, strings.Join(full, "\n")+"\n"+line+"\n.boot\n"+line+"\n.run 200\n.out\n", "error 3\nok\nerror 3\n1\n6\n")
		wantAnswers(t, line+" as the last one", strings.Join(full[:99], "\n")+"\n"+line+"\nhalt\n", "error 3\n")
	}
	wantTalk(t, "boots between", slices.Concat(full[:60], []string{".boot > ok"}, full[60:], []string{"halt > error 3", ".run 100 > 1", ".out > ", ".boot > ok", "halt > error 3", ".run 100 > 0", ".out > 6"})...)
	// What is no Code takes no room.
	wantTalk(t, "with errors between", slices.Concat(full[:50], []string{"pop > error 2", "pop > error 2", ".pop > error 1"}, full[50:], []string{".boot > ok", ".run 101 > 1", ".out > 6", "dup > error 3"})...)
}

// TestErrorsChangeNothing puts lines that are answered by an error between all others, one by one and all at once.
func TestErrorsChangeNothing(t *testing.T) {
	wrong := []string{"pop > error 2", ".pop > error 1", ".run 2001 > error 4", ".run -1 > error 4", ".fail -1 > error 6", ".fail -999999999 > error 6", ".run x > error 1", ".save 1 > error 1"}
	all := []talk{
		{"push 3", "print", "push 4", ".boot > ok", "print", ".run 3 > 0", ".save > 1", ".run 1 > 1", ".out > 3", ".restart > 3", ".run 2 > 1", ".out > 3 4", ".graph > 2 58", ".fail 9 > 1"},
		{"new 20", "save 0", "new 5", "drop", ".boot > ok", ".run 3 > 0", ".graph > 4 91", ".scavenge > 91", ".run 1 > 0", ".compact > 82", ".save > 1", ".save > 2", ".fail 1 > 2", ".restart > 4", ".graph > 3 82"},
		{".out > ", ".save > 1", ".fail 0 > 1", ".boot > ok", ".compact > 58", ".restart > 0"},
	}
	for _, plain := range all {
		many := talk{}
		for i, row := range plain {
			many = append(many, wrong[i%len(wrong)], wrong[(i+3)%len(wrong)], row)
			for _, one := range wrong {
				lines, answers := slices.Insert(slices.Clone(plain), i, one).parts()
				wantAnswers(t, "an error between", strings.Join(lines, ""), strings.Join(answers, ""))
			}
		}
		wantTalk(t, "errors between", many...)
	}
}

// TestErrorsOfAFullBench are those of a machine that has no room and no pages; it stays, and so do the disk and the list.
func TestErrorsOfAFullBench(t *testing.T) {
	for _, ahead := range [][]string{{".save > 1"}, {".save > 1", ".save > 2"}, {}} {
		epoch := digits(int64(len(ahead)))
		wantTalk(t, "too many pages", slices.Concat(large(), ahead, []string{
			".run 2000 > 0", ".run 400 > 0", ".graph > 162 1338", ".save > error 6", ".fail 0 > error 6", ".fail 1 > error 6", ".fail 99 > error 6", ".fail -1 > error 6", ".graph > 162 1338",
			".run 0 > 0", "halt", ".restart > 0", ".graph > 2 58", ".fail 0 > " + epoch, ".save > " + digits(int64(len(ahead))+1)})...)
	}
}

// large is a booted machine that makes a chain of objects of 8 words, which take 44 bytes of a page or more, three fields being MaxInt.
func large() []string {
	return []string{
		"new 4", "dup", "push 1000000000", "set 0", "dup", "push 1000000000", "set 1", "dup", "push 1000000000", "set 2", "dup", "load 0", "set 3", "save 0", "jump 0", ".boot > ok",
	}
}

func TestTextsOfAllBytes(t *testing.T) {
	for b := range 256 {
		one := string([]byte{byte(b)})
		want := map[bool]string{true: "error 1\n", false: "error 2\n"}[one == "."]
		if one == "\n" {
			want = ""
		}
		wantAnswers(t, "one byte", one, want)
		wantAnswers(t, "one byte and its end", one+"\n", want)
		if one == "\n" {
			continue
		}
		wantAnswers(t, "behind a point", "."+one, "error 1\n")
		wantAnswers(t, "behind a command", ".graph"+one, "error 1\n")
		if one != "." {
			wantAnswers(t, "ahead of a command", one+".graph", "error 2\n")
		}
		if b < '0' || b > '9' {
			wantAnswers(t, "behind a number", ".run 1"+one, "error 1\n")
			wantAnswers(t, "behind the N of a Code", "push 1"+one, "error 2\n")
		}
		if one != "-" && (b < '0' || b > '9') {
			wantAnswers(t, "ahead of a number", ".run "+one+"1", "error 1\n")
		}
		wantAnswers(t, "behind a Code", "halt"+one, "error 2\n")
	}
	if got := impl.Bench(""); got != "" {
		t.Errorf("the empty text is answered by %q", got)
	}
}
