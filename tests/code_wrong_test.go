package tests

import (
	"strings"
	"testing"

	"loop.example/g00140/impl"
)

func TestTextsWithoutAWord(t *testing.T) {
	for _, text := range []string{
		"", " ", "  ", "\t", "\n", "\r", "\x00", "-", "+", "0", "1", "7", "-1", "10", "1000000000", " 1", "0 0", "1 push", "7 dup", ".", ".boot", ".run 1", "#", "//",
	} {
		wantNotRead(t, text)
	}
}

func TestWordsThatWantANumber(t *testing.T) {
	for _, f := range codeForms() {
		if !f.told {
			continue
		}
		for _, text := range []string{f.word, f.word + " ", f.word + "  ", f.word + "0", f.word + "1", f.word + "-1", f.word + "\t1", f.word + "\n1", f.word + ",1", f.word + "=1", f.word + " x", f.word + " " + f.word} {
			wantNotRead(t, text)
		}
	}
}

func TestWordsThatHaveNoNumber(t *testing.T) {
	for _, f := range codeForms() {
		if f.told {
			continue
		}
		for _, behind := range []string{" ", "  ", " 0", " 1", " -1", " 10", "0", "1", "-0", " 00", " x", "\t", "\t0", " 1000000000", " " + f.word, "\n", "\r", "\x00"} {
			wantNotRead(t, f.word+behind)
		}
	}
}

func TestBlanksOfCodes(t *testing.T) {
	for _, c := range endCodes() {
		text, _ := modelShow(c)
		for _, blank := range []string{" ", "  ", "\t", "\v", "\f", "\r", "\n", "\u00a0", "\u2003", "\u0085", "\u3000", "\x00", "\xa0", "\xc2", "\ufeff"} {
			wantNotRead(t, blank+text)
			wantNotRead(t, text+blank)
			wantNotRead(t, blank+text+blank)
			if word, number, told := strings.Cut(text, " "); told {
				wantNotRead(t, word+" "+blank+number)
				wantNotRead(t, word+blank+" "+number)
				if blank != " " {
					wantNotRead(t, word+blank+number)
				}
			}
		}
	}
}

func TestCapitalLetters(t *testing.T) {
	for _, f := range codeForms() {
		behind := ""
		if f.told {
			behind = " 5"
		}
		wantNotRead(t, strings.ToUpper(f.word)+behind)
		for i := range len(f.word) {
			wantNotRead(t, f.word[:i]+strings.ToUpper(f.word[i:i+1])+f.word[i+1:]+behind)
		}
	}
}

// isCodeWord says whether a text is one of the twenty words.
func isCodeWord(text string) bool {
	for _, f := range codeForms() {
		if f.word == text {
			return true
		}
	}
	return false
}

func TestPartsOfWords(t *testing.T) {
	for _, f := range codeForms() {
		for from := range len(f.word) + 1 {
			for to := from; to <= len(f.word); to++ {
				part := f.word[from:to]
				if isCodeWord(part) {
					continue
				}
				wantNotRead(t, part)
				wantNotRead(t, part+" 5")
				wantNotRead(t, part+" 0")
			}
		}
	}
}

func TestWordsWithMore(t *testing.T) {
	for _, f := range codeForms() {
		for _, more := range []string{"s", "a", "e", "x", "0", "_", "-", ".", ":", ";", "\x00", "\xff", "\u00e9", f.word, "push", "dup"} {
			for _, text := range []string{f.word + more, more + f.word} {
				wantNotRead(t, text)
				wantNotRead(t, text+" 0")
				wantNotRead(t, text+" 5")
			}
		}
	}
	for _, text := range []string{"pop", "nop", "call", "jmp", "mul", "div", "not", "store", "put", "ret", "return", "swp", "duplicate", "pus h 1", "p ush 1", "push 1 2", "push 1 1", "dup dup", "dup add", "push 1 push 1", "push 1;", "push 1,", "push 1.", "push (1)", "push '1'", "push 1\ndup", "dup\ndup", "push\n1"} {
		wantNotRead(t, text)
	}
}

// wrongNumbers are written in no form that a number has, whatever they would come to.
var wrongNumbers = []string{
	"", "-", "--", "--1", "- 1", "-0", "-00", "+", "+0", "+1", "+-1", "-+1", "00", "01", "05", "007", "0000000001", "0000000005", "-01", "-05", "0-1", "1-", "5-", "5-1", "5+",
	" 5", "5 ", "5\t", "\t5", "5\n", "5\r", "5\x00", "\x005", "5.", ".5", "5.0", "5e0", "5e1", "1e1", "0x5", "0x1", "0b1", "0o5", "5_0", "1_0", "_5", "5_", "5,0", "5a", "a5", "a", "x", "N", "five",
	"\u0665", "\uff15", "\u00b2", "\u2212" + "1", "\u20131", "5\u00e9", "\u00e95", "\xff", "5\xff", "\xff5", "\xc3", "5\xc3", "\xe2\x82", "5 5", "inf", "NaN", "nil", "true", "'", "5'",
}

func TestWrongFormsOfN(t *testing.T) {
	for _, f := range codeForms() {
		for _, number := range wrongNumbers {
			wantNotRead(t, f.word+" "+number)
		}
	}
}

func TestNoughtsAhead(t *testing.T) {
	for _, c := range endCodes() {
		text, _ := modelShow(c)
		word, number, told := strings.Cut(text, " ")
		if !told {
			continue
		}
		bare, below := strings.CutPrefix(number, "-")
		sign := ""
		if below {
			sign = "-"
		}
		for _, noughts := range []string{"0", "00", "000000000", "0000000000", strings.Repeat("0", 100)} {
			wantNotRead(t, word+" "+sign+noughts+bare)
			wantNotRead(t, word+" "+noughts+sign+bare)
		}
		wantNotRead(t, word+" +"+number)
		wantNotRead(t, word+" -"+sign+"0"+bare)
	}
}

func TestHowManyDigitsOfN(t *testing.T) {
	for _, c := range []struct {
		number string
		want   int64
		is     bool
	}{
		{"999999999", 999999999, true}, {"-999999999", -999999999, true},
		{"1000000000", 1000000000, true}, {"-1000000000", -1000000000, true},
		{"1000000001", 0, false}, {"-1000000001", 0, false}, {"1000000010", 0, false}, {"1100000000", 0, false}, {"2000000000", 0, false},
		{"9999999999", 0, false}, {"-9999999999", 0, false}, {"2147483647", 0, false}, {"4294967296", 0, false}, {"4294967301", 0, false},
		{"10000000000", 0, false}, {"-10000000000", 0, false}, {"12345678901", 0, false}, {"99999999999", 0, false}, {"10000000001", 0, false},
		{"9223372036854775807", 0, false}, {"-9223372036854775808", 0, false}, {"9223372036854775808", 0, false},
		{"18446744073709551616", 0, false}, {"18446744073709551617", 0, false}, {"18446744073709551621", 0, false}, {"-18446744073709551615", 0, false},
		{"340282366920938463463374607431768211461", 0, false},
		{strings.Repeat("9", 40), 0, false}, {"1" + strings.Repeat("0", 400), 0, false}, {"-" + strings.Repeat("1", 100000), 0, false}, {strings.Repeat("0", 100000), 0, false},
	} {
		if c.is {
			wantShown(t, impl.Code{Op: impl.CdPush, N: c.want}, "push "+c.number)
		} else {
			wantNotRead(t, "push "+c.number)
		}
		for _, f := range codeForms() {
			if f.op != impl.CdPush {
				wantNotRead(t, f.word+" "+c.number)
			}
		}
	}
}

func TestBytesThatAreNoRightText(t *testing.T) {
	for _, bad := range []string{"\xff", "\xfe", "\x80", "\xbf", "\xc0\x80", "\xc0\xa0", "\xc3", "\xe2", "\xe2\x82", "\xf0\x9f", "\xf0\x80\x80\xa0", "\xed\xa0\x80", "\xf4\x90\x80\x80", "\ufffd", "\u00e9", "\U0001F5FF", "\u0120", "\u010a", "\U00010020"} {
		for _, text := range []string{"dup", "push 5", "become", "call 10"} {
			for i := range len(text) + 1 {
				wantNotRead(t, text[:i]+bad+text[i:])
				if i < len(text) {
					wantNotRead(t, text[:i]+bad+text[i+1:])
				}
			}
		}
		wantNotRead(t, bad)
		wantNotRead(t, bad+" 5")
	}
}

func TestLongTexts(t *testing.T) {
	for _, text := range []string{
		strings.Repeat("push", 100000), strings.Repeat("push 1 ", 50000), "push " + strings.Repeat(" ", 100000) + "1", strings.Repeat(" ", 100000), strings.Repeat("\xff", 100000),
		"dup" + strings.Repeat(" ", 100000), "dup" + strings.Repeat("\x00", 100000), "push 1" + strings.Repeat("0", 100000), strings.Repeat("a", 1000000),
	} {
		wantNotRead(t, text)
	}
}
