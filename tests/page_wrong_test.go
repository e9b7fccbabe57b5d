package tests

import (
	"slices"
	"strconv"
	"strings"
	"testing"

	"loop.example/g00140/impl"
)

func TestEmptyTextIsNoPage(t *testing.T) {
	wantCode(t, "", impl.PgEmpty)
	sector := impl.See(impl.NewDisk(), 2)
	wantCode(t, sector, impl.PgEmpty)
}

// badForms are numbers in a form that no page has, whatever their place.
var badForms = []string{
	"", "-", "--1", "-0", "00", "01", "007", "-01", "-00", "+1", "+0", " 1", "1 ", " ", "1_0", "0x1", "1e1", "1.", "1.0", ".", "a", "1a", "a1", "P1",
	"\u0661", "\uff11", "\x00", "1\x00", "1\n", "\n1", "1-", "1-1", "\xff", "-a", "0000000000",
}

func TestWrongFormsOfAPage(t *testing.T) {
	for _, text := range []string{
		"x", "S", "p3;7;4117313815;stone", " P3;7;4117313815;stone", "3;7;4117313815;stone", "\nP3;7;4117313815;stone", "\x00", ";", ";;;", "0;0;0;",
		"P", "P;", "P;;", "P;;;", "P;;;;", "PP3;7;4117313815;stone", "P 3;7;4117313815;stone",
		"P3", "P3;", "P3;7", "P3;7;", "P3;7;4117313815", "P3;7;4117313815stone", "P3,7,4117313815,stone", "P3;7,4117313815;stone",
		"P3;;7;4117313815;stone", "P;3;7;4117313815;stone", "P3:7;4117313815;stone", "P3;7;stone;4117313815", "P30", "P30;-1", "Pstone", "stone",
	} {
		wantCode(t, text, impl.PgForm)
	}
}

func TestWrongFormsOfEachNumber(t *testing.T) {
	for _, bad := range badForms {
		wantCode(t, rawPage(bad, "7", "stone"), impl.PgForm)
		wantCode(t, rawPage("3", bad, "stone"), impl.PgForm)
		wantCode(t, "P3;7;"+bad+";stone", impl.PgForm)
	}
}

func TestANoughtAheadOfARightPage(t *testing.T) {
	wantCode(t, "P03;7;4117313815;stone", impl.PgForm)
	wantCode(t, "P3;07;4117313815;stone", impl.PgForm)
	wantCode(t, "P3;7;04117313815;stone", impl.PgForm)
	wantCode(t, "P3;7;4117313815;0stone", impl.PgSum)
	wantCode(t, rawPage("03", "7", "stone"), impl.PgForm)
	wantCode(t, rawPage("3", "07", "stone"), impl.PgForm)
}

// smallSum is a page whose sum has less than 10 digits, so that noughts ahead
// of it make no number that is too long.
func smallSum(t *testing.T) (string, string) {
	for i := range 1000 {
		body := "s" + strconv.Itoa(i)
		if sum := strconv.FormatInt(modelCrc("3;7;"+body), 10); len(sum) == 8 {
			return sum, body
		}
	}
	t.Fatal("no body was found")
	return "", ""
}

func TestANoughtAheadOfTheSum(t *testing.T) {
	sum, body := smallSum(t)
	if got := open("P3;7;" + sum + ";" + body); got != (opened{number: 3, epoch: 7, body: body}) {
		t.Fatal(got)
	}
	for _, ahead := range []string{"0", "00", "+", "-0", " ", "000"} {
		wantCode(t, "P3;7;"+ahead+sum+";"+body, impl.PgForm)
	}
	wantCode(t, "P3;7;-"+sum+";"+body, impl.PgSum)
}

func TestHowManyDigits(t *testing.T) {
	nine, ten, eleven := "123456789", "1234567890", "12345678901"
	cases := []struct {
		number, epoch, sum string
		code               int64
	}{
		{nine, "7", "1", impl.PgRange},
		{"-" + nine, "7", "1", impl.PgRange},
		{"999999999", "7", "1", impl.PgRange},
		{ten, "7", "1", impl.PgForm},
		{"-" + ten, "7", "1", impl.PgForm},
		{"1000000000", "7", "1", impl.PgForm},
		{"3", nine, "1", impl.PgSum},
		{"3", "999999999", "1", impl.PgSum},
		{"3", "-" + nine, "1", impl.PgRange},
		{"3", "-999999999", "1", impl.PgRange},
		{"3", ten, "1", impl.PgForm},
		{"3", "1000000000", "1", impl.PgForm},
		{"3", "-1000000000", "1", impl.PgForm},
		{"3", "7", nine, impl.PgSum},
		{"3", "7", ten, impl.PgSum},
		{"3", "7", "9999999999", impl.PgSum},
		{"3", "7", "-9999999999", impl.PgSum},
		{"3", "7", eleven, impl.PgForm},
		{"3", "7", "10000000000", impl.PgForm},
		{"3", "7", "-" + eleven, impl.PgForm},
		{"3", "7", strings.Repeat("9", 19), impl.PgForm},
		{"3", "7", strings.Repeat("9", 40), impl.PgForm},
		{strings.Repeat("9", 40), "7", "1", impl.PgForm},
		{"3", strings.Repeat("1", 100000), "1", impl.PgForm},
		{"9223372036854775807", "7", "1", impl.PgForm},
		{"-9223372036854775808", "7", "1", impl.PgForm},
		{"3", "18446744073709551623", "1", impl.PgForm},
		{"3", "7", "8412281111", impl.PgSum}, // the right sum and 2 to the power 32
	}
	for _, c := range cases {
		wantCode(t, "P"+c.number+";"+c.epoch+";"+c.sum+";stone", c.code)
	}
}

func TestOutOfRangeWithTheRightSum(t *testing.T) {
	for _, number := range []string{"30", "31", "100", "999999999", "-1", "-29", "-999999999"} {
		wantCode(t, rawPage(number, "7", "stone"), impl.PgRange)
		wantCode(t, rawPage(number, "0", ""), impl.PgRange)
	}
	for _, epoch := range []string{"-1", "-7", "-999999999"} {
		wantCode(t, rawPage("3", epoch, "stone"), impl.PgRange)
	}
	for _, size := range []int{201, 202, 256, 400, 100000} {
		wantCode(t, rawPage("3", "7", aText('b', size)), impl.PgRange)
	}
	for _, epoch := range []string{"1000000000", "9999999999"} {
		wantCode(t, rawPage("3", epoch, "stone"), impl.PgForm)
	}
}

func TestTheCodeNamedFirst(t *testing.T) {
	long := aText('b', 201)
	cases := []struct {
		text string
		code int64
	}{
		{"P30;07;1;stone", impl.PgForm},
		{"P-1;7;x;stone", impl.PgForm},
		{"P30;7;12345678901;" + long, impl.PgForm},
		{"P30;7;1", impl.PgForm},
		{"P30;-1;1;" + long, impl.PgRange},
		{"P30;7;1;stone", impl.PgRange},
		{"P3;-1;1;stone", impl.PgRange},
		{"P3;7;1;" + long, impl.PgRange},
		{"P3;7;-1;" + long, impl.PgRange},
		{"P3;7;1;stone", impl.PgSum},
		{"P3;7;0;stone", impl.PgSum},
		{"P3;7;-1;stone", impl.PgSum},
		{"P0;0;0;", impl.PgSum},
		{"P3;7;4117313814;stone", impl.PgSum},
		{"P3;7;4117313816;stone", impl.PgSum},
		{"P3;7;4117313815;", impl.PgSum},
		{"P3;7;4117313815;stone ", impl.PgSum},
		{"P2;7;4117313815;stone", impl.PgSum},
		{"P3;8;4117313815;stone", impl.PgSum},
		{"P0;7;4117313815;stone", impl.PgSum},
		{"P3;0;4117313815;stone", impl.PgSum},
		{"P3;7;177653480;stone", impl.PgSum}, // 4294967295 less the right sum
	}
	for _, c := range cases {
		wantCode(t, c.text, c.code)
	}
}

func TestTheNumberNought(t *testing.T) {
	if got := open(rawPage("0", "0", "")); got != (opened{}) {
		t.Error(got)
	}
	if got := open(rawPage("0", "0", ";")); got != (opened{body: ";"}) {
		t.Error(got)
	}
}

func TestThePageOfANoughtSum(t *testing.T) {
	body := bodyWithSum("3;7;", 0)
	if modelCrc("3;7;"+body) != 0 {
		t.Fatalf("the sum of %q is %d", body, modelCrc("3;7;"+body))
	}
	want := opened{number: 3, epoch: 7, body: body}
	text, is := impl.PackPage(3, 7, body)
	if !is || text != "P3;7;0;"+body || open(text) != want {
		t.Errorf("%q is %v", text, open(text))
	}
	wantCode(t, "P3;7;00;"+body, impl.PgForm)
	wantCode(t, "P3;7;-0;"+body, impl.PgForm)
	wantCode(t, "P3;7;;"+body, impl.PgForm)
}

// bodyWithSum are the four bytes that bring the sum of head and them to want:
// the rule is gone through backwards, bit by bit.
func bodyWithSum(head string, want int64) string {
	c := uint32(4294967295 - want)
	for range 32 {
		if c>>31 == 1 {
			c = (c^3988292384)<<1 | 1
		} else {
			c <<= 1
		}
	}
	c ^= uint32(4294967295 - modelCrc(head))
	return string([]byte{byte(c), byte(c >> 8), byte(c >> 16), byte(c >> 24)})
}

func TestDrawnTexts(t *testing.T) {
	defer noPanic(t, "a drawn text")
	n := numbers(23)
	seen := map[int64]int{}
	parts := []string{"P", "P3", ";", ";", ";", "0", "7", "29", "30", "-", "-1", "1", "999999999", "1000000000", "4117313815", "12345678901", "x", "\n", "stone", " ", "+", "\xff", "00"}
	for range 60000 {
		var b strings.Builder
		if n.below(3) > 0 {
			b.WriteString("P")
		}
		for range n.below(10) {
			b.WriteString(parts[n.below(len(parts))])
		}
		got, want := open(b.String()), modelOpen(b.String())
		if got != want {
			t.Fatalf("%q is %v, not %v", b.String(), got, want)
		}
		seen[got.code]++
	}
	for _, code := range []int64{1, 2, 3, 4} {
		if seen[code] == 0 {
			t.Errorf("no text was drawn with the code %d", code)
		}
	}
}

func TestEveryByteOfAHeadChanged(t *testing.T) {
	for _, text := range []string{"P3;7;4117313815;stone", rawPage("0", "0", ""), rawPage("29", "999999999", ";")} {
		for i := range len(text) {
			for b := range 256 {
				other := []byte(text)
				other[i] = byte(b)
				gone := slices.Delete([]byte(text), i, i+1)
				more := slices.Insert([]byte(text), i, byte(b))
				for _, changed := range [][]byte{other, gone, more} {
					if got, want := open(string(changed)), modelOpen(string(changed)); got != want {
						t.Fatalf("%q is %v, not %v", changed, got, want)
					}
				}
			}
		}
	}
}

func TestTextsOfPagesAreNewMemory(t *testing.T) {
	body := aText('m', 120)
	text, _ := impl.PackPage(3, 7, body)
	again, _ := impl.PackPage(3, 7, body)
	_, _, out, _ := impl.OpenPage(text)
	_, _, second, _ := impl.OpenPage(text)
	for i, pair := range [][2]string{{text, body}, {text, again}, {out, text}, {out, second}} {
		if sharesBytes(pair[0], pair[1]) {
			t.Errorf("pair %d shares memory", i)
		}
	}
	if out != body || second != body {
		t.Error("another body")
	}
}
