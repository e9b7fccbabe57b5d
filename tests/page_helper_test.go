package tests

import (
	"regexp"
	"strconv"
	"strings"
	"testing"

	"loop.example/g00140/impl"
)

// opened is all that OpenPage tells.
type opened struct {
	number int64
	epoch  int64
	body   string
	code   int64
}

func (o opened) String() string {
	return "page " + strconv.FormatInt(o.number, 10) + " of epoch " + strconv.FormatInt(o.epoch, 10) + " with " + strconv.QuoteToASCII(o.body) + ", code " + strconv.FormatInt(o.code, 10)
}

func open(text string) opened {
	number, epoch, body, code := impl.OpenPage(text)
	return opened{number, epoch, body, code}
}

// wantCode fails unless the text is told with this code and nothing beside it.
func wantCode(t *testing.T, text string, code int64) {
	t.Helper()
	if got := open(text); got != (opened{code: code}) {
		t.Errorf("%.60q is %v, not code %d alone", text, got, code)
	}
}

// modelCrc says the chapter again, bit by bit.
func modelCrc(text string) int64 {
	c := int64(4294967295)
	for i := 0; i < len(text); i++ {
		c ^= int64(text[i])
		for k := 0; k < 8; k++ {
			odd := c%2 == 1
			c = c / 2
			if odd {
				c ^= 3988292384
			}
		}
	}
	return 4294967295 - c
}

// rawPage is written as a page is, with the right sum, whatever is in it.
func rawPage(number string, epoch string, body string) string {
	sum := modelCrc(number + ";" + epoch + ";" + body)
	return "P" + number + ";" + epoch + ";" + strconv.FormatInt(sum, 10) + ";" + body
}

var pageHead = regexp.MustCompile(`^P(0|-?[1-9][0-9]{0,8});(0|-?[1-9][0-9]{0,8});(0|-?[1-9][0-9]{0,9});`)

// modelOpen says the chapter again, by an expression for the form.
func modelOpen(text string) opened {
	if len(text) == 0 {
		return opened{code: 1}
	}
	at := pageHead.FindStringSubmatchIndex(text)
	if at == nil {
		return opened{code: 2}
	}
	body := text[at[1]:]
	number, _ := strconv.ParseInt(text[at[2]:at[3]], 10, 64)
	epoch, _ := strconv.ParseInt(text[at[4]:at[5]], 10, 64)
	if number < 0 || number > 29 || epoch < 0 || epoch > 999999999 || len(body) > 200 {
		return opened{code: 3}
	}
	told := text[at[2]:at[3]] + ";" + text[at[4]:at[5]] + ";" + body
	if strconv.FormatInt(modelCrc(told), 10) != text[at[6]:at[7]] {
		return opened{code: 4}
	}
	return opened{number: number, epoch: epoch, body: body}
}

// someBodies are right bodies: empty, full, with all that a page's head has.
func someBodies() []string {
	every := make([]byte, 200)
	for i := range every {
		every[i] = byte(i + 56)
	}
	return []string{
		"", "x", "stone", ";", ";;;", "P3;7;4117313815;stone", "0;0;0;", "-1", "\n", "a\nb\r\nc\n", "\x00", "\x00;\x00", "\xff\xfe\x80",
		"\u00e9\u20ac\U0001F5FF", " ", strings.Repeat(";", 200), strings.Repeat("\n", 200), strings.Repeat("\u00e9", 100),
		aText('q', 199), aText('q', 200), string(every),
	}
}
