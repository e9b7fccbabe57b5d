package tests

import (
	"slices"
	"strings"
	"testing"

	"loop.example/g00140/impl"
)

// pagedVm is at Pc 1 of 12 Codes, and has printed both ends; its text takes three pages, of objects with no field and with some that lead to each other.
func pagedVm() impl.Vm {
	s := site{true, 0, 2}
	v := s.world([]int64{ref(oldTwo), num(1000000000), 0, ref(youngFi), num(-1000000000), ref(oldFour), num(7)}, slices.Repeat(program("dup", "halt", "drop"), 4)...)
	v.Pc = 1
	v.Out = slices.Concat([]int64{-4, 1000000000, 0, -1000000000}, slices.Repeat([]int64{123456789}, 20))
	return v
}

// linesOfPages are the machine's lines, without their ends.
func linesOfPages(v impl.Vm) []string {
	return strings.Split(strings.TrimSuffix(modelText(v), "\n"), "\n")
}

// relined are the pages of these lines.
func relined(lines ...string) []string { return inPieces(strings.Join(lines, "\n") + "\n") }

// withLine has one line changed for others; with none it is left out.
func withLine(lines []string, i int, others ...string) []string {
	return relined(slices.Concat(lines[:i], others, lines[i+1:])...)
}

// TestThawTakesOtherPrograms has each program with which there is a machine, and those with which there is none.
func TestThawTakesOtherPrograms(t *testing.T) {
	n := numbers(173)
	for _, pc := range []int64{0, 1, 9, 10, 50, 99, 100} {
		v := withPc(mustNewVm(t, drawnProgram(&n, 100)), pc)
		bodies := mustFreeze(t, v)
		for _, count := range []int{0, 1, 2, 8, 9, 10, 11, 49, 50, 51, 98, 99, 100, 101, 102, 1000} {
			codes := drawnProgram(&n, count)
			want := frozen(v)
			want.Program = codes
			name := "Pc " + digits(pc) + ", " + digits(int64(count)) + " Codes"
			if count <= 100 && int64(count) >= pc {
				wantThawed(t, name, bodies, codes, want)
			} else {
				wantNotThawed(t, name, bodies, codes)
			}
		}
	}
}

// TestThawRefusesWrongPrograms has one Code that is none.
func TestThawRefusesWrongPrograms(t *testing.T) {
	bodies := mustFreeze(t, pagedVm())
	codes := slices.Repeat(program("dup"), 12)
	wantThawed(t, "the program", bodies, codes, frozen(shifted(pagedVm(), func(v *impl.Vm) { v.Program = codes })))
	wrong := []impl.Code{{}, {Op: 21}, {Op: -1}, {Op: 12, N: 1}, {Op: 2, N: 10}, {Op: 10, N: 101}, {Op: 1, N: 1000000001}, {Op: 1<<32 + 1}}
	for i := range codes {
		for _, c := range wrong {
			one := slices.Clone(codes)
			one[i] = c
			wantNotThawed(t, "a Code that is none", bodies, one)
		}
	}
}

// TestThawIsOfJustThesePages has pages cut, longer, in another order, and one missing or one more.
func TestThawIsOfJustThesePages(t *testing.T) {
	v := pagedVm()
	bodies := mustFreeze(t, v)
	if len(bodies) != 3 {
		t.Fatalf("%d pages", len(bodies))
	}
	a, b, c := bodies[0], bodies[1], bodies[2]
	for name, wrong := range map[string][]string{
		"none": nil, "an empty list": {}, "one empty one": {""}, "three empty ones": {"", "", ""}, "30 empty ones": make([]string, 30), "31 empty ones": make([]string, 31),
		"the last one missing": {a, b}, "the first one missing": {b, c}, "the middle one missing": {a, c}, "the first one alone": {a},
		"the first two turned round": {b, a, c}, "the last two turned round": {a, c, b}, "all turned round": {c, b, a}, "gone round": {b, c, a},
		"an empty one behind": {a, b, c, ""}, "an empty one ahead": {"", a, b, c}, "an empty one between": {a, "", b, c},
		"the last one twice": {a, b, c, c}, "the first one twice": {a, a, b, c}, "all twice": {a, b, c, a, b, c},
		"one byte more": {a, b, c + "0"}, "a line more": {a, b, c + "\n"}, "a blank more": {a, b, c + " "}, "a byte 0 more": {a, b, c + "\x00"},
		"one page more": {a, b, c, "\n"}, "a node more": {a, b, c + "3 99\n"},
		"one byte fewer": {a, b, c[:len(c)-1]}, "a first byte fewer": {a[1:], b, c}, "a byte fewer between": {a[:199], b, c},
		"all in one": {a + b + c}, "two in one": {a + b, c}, "the others in one": {a, b + c},
	} {
		wantNotThawed(t, name, wrong, v.Program)
	}
	text := a + b + c
	for size := 1; size <= len(text)+1; size++ {
		if size != 200 {
			wantNotThawed(t, "pieces of "+digits(int64(size)), cutBy(text, size), v.Program)
		}
	}
	for at := range text {
		wantNotThawed(t, "cut off", inPieces(text[:at]), v.Program)
		wantNotThawed(t, "cut off ahead", inPieces(text[at+1:]), v.Program)
		moved := slices.Concat(bodies[:at/200], []string{bodies[at/200][:at%200], bodies[at/200][at%200:]}, bodies[at/200+1:])
		wantNotThawed(t, "a page in two", moved, v.Program)
	}
	wantThawed(t, "all of them", bodies, v.Program, frozen(v))
}

// TestPagesThatAreMoreThanThereMayBe would be a machine, cut otherwise.
func TestPagesThatAreMoreThanThereMayBe(t *testing.T) {
	v := sizedVm(t, 10, 5800)
	text := modelText(v)
	wantThawed(t, "29 pages", inPieces(text), v.Program, frozen(v))
	for _, size := range []int{1, 100, 187, 193, 194, 199, 201, 256, 5800} {
		wantNotThawed(t, "pieces of "+digits(int64(size)), cutBy(text, size), v.Program)
	}
	wantNotThawed(t, "an empty one behind", append(inPieces(text), ""), v.Program)
	wantNotThawed(t, "many empty ones behind", append(inPieces(text), make([]string, 10000)...), v.Program)
	wantNotThawed(t, "a long text", cutBy(strings.Repeat("3 5 0\n", 100000), 200), v.Program)
	wantNotThawed(t, "a long body", []string{strings.Repeat("3 5 0\n", 100000)}, v.Program)
	wantNotThawed(t, "a long line", cutBy(newText+"1 1"+noughts(200000)+"\n", 200), v.Program)
	wantNotThawed(t, "a long Out", cutBy("0 0 3\n100000"+noughts(100000)+"\n", 200), v.Program)
}

// TestThawReadsNumbersOfTheirFormAlone writes each number of the text otherwise.
func TestThawReadsNumbersOfTheirFormAlone(t *testing.T) {
	v := pagedVm()
	lines := linesOfPages(v)
	for i, line := range lines {
		words := strings.Split(line, " ")
		for k, word := range words {
			put := func(text string) []string {
				return withLine(lines, i, strings.Join(slices.Concat(words[:k], []string{text}, words[k+1:]), " "))
			}
			var others []string
			for _, ahead := range []string{"+", "0", "-0", "00", " ", "\t", "0x", "--", "_", "\x00", "\n", "٠"} {
				others = append(others, ahead+word)
			}
			for _, behind := range []string{" ", ".", ".0", "e0", "_", "\r", "\x00", "\t", ";", "\n\n", "  0"} {
				others = append(others, word+behind)
			}
			others = append(others, "", "-", "+", " ", "x", "-"+strings.TrimPrefix(word, "-")+"-", "0000000000", "99999999999", "-99999999999", "9223372036854775808", "18446744073709551616", "4294967296", "-9223372036854775808")
			if word == "0" {
				others = append(others, "-0", "+0", "00")
			}
			for _, other := range others {
				wantNotThawed(t, "line "+digits(int64(i))+", "+other+" for "+word, put(other), v.Program)
			}
		}
		if t.Failed() {
			return
		}
	}
}

// TestThawReadsBlanksAndLinesAlone changes what lies between the numbers.
func TestThawReadsBlanksAndLinesAlone(t *testing.T) {
	v := pagedVm()
	text := modelText(v)
	for i := range text {
		if text[i] != ' ' && text[i] != '\n' {
			continue
		}
		// Without the blank two numbers are one, which may be a right one.
		holdsToThaw(t, "byte "+digits(int64(i))+" is left out", inPieces(text[:i]+text[i+1:]), v.Program)
		for _, other := range []string{"  ", " \n", "\n ", "\n\n", "\t", "\r\n", "\r", "\v", "\f", "\u00a0", "\u2028", "\x00", ";", ","} {
			wantNotThawed(t, "byte "+digits(int64(i))+" is "+other, inPieces(text[:i]+other+text[i+1:]), v.Program)
		}
		// A blank for the end of a line, and the other way round.
		if text[i] == ' ' {
			wantNotThawed(t, "a line's end for a blank", inPieces(text[:i]+"\n"+text[i+1:]), v.Program)
		} else {
			wantNotThawed(t, "a blank for a line's end", inPieces(text[:i]+" "+text[i+1:]), v.Program)
		}
	}
}
