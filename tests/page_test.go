package tests

import (
	"hash/crc32"
	"math"
	"strconv"
	"strings"
	"sync"
	"testing"

	"loop.example/g00140/impl"
)

func TestPageLimits(t *testing.T) {
	if impl.MaxPages != 30 || impl.MaxEpoch != 999999999 || impl.BodySize != 200 {
		t.Fatal(impl.MaxPages, impl.MaxEpoch, impl.BodySize)
	}
	if impl.PgEmpty != 1 || impl.PgForm != 2 || impl.PgRange != 3 || impl.PgSum != 4 {
		t.Fatal(impl.PgEmpty, impl.PgForm, impl.PgRange, impl.PgSum)
	}
}

func TestCrcOfKnownTexts(t *testing.T) {
	cases := []struct {
		text string
		want int64
	}{
		{"", 0},
		{"a", 0xE8B7BE43},
		{"abc", 0x352441C2},
		{"123456789", 0xCBF43926},
		{"menhir", 3279134540},
		{"The quick brown fox jumps over the lazy dog", 0x414FA339},
		{"\x00", 0xD202EF8D},
		{"\xff", 0xFF000000},
		{"\x80", 0x3FBA6CAD},
		{"\xff\xff\xff\xff", 0xFFFFFFFF},
		{strings.Repeat("\x00", 32), 0x190A55AD},
		{strings.Repeat("\xff", 32), 0xFF6CAB0B},
	}
	for _, c := range cases {
		if got := impl.Crc(c.text); got != c.want {
			t.Errorf("Crc of %q is %d, not %d", c.text, got, c.want)
		}
	}
}

func TestCrcByTheChapter(t *testing.T) {
	for a := range 256 {
		for b := range 256 {
			text := string([]byte{byte(a), byte(b)})
			if got := impl.Crc(text); got != modelCrc(text) || impl.Crc(text[:1]) != modelCrc(text[:1]) {
				t.Fatalf("Crc of %q is %d, not %d", text, got, modelCrc(text))
			}
		}
	}
	n := numbers(21)
	for range 500 {
		text := make([]byte, n.below(300))
		for i := range text {
			text[i] = byte(n.below(256))
		}
		if got := impl.Crc(string(text)); got != modelCrc(string(text)) || got != int64(crc32.ChecksumIEEE(text)) {
			t.Fatalf("Crc of %q is %d, not %d", text, got, modelCrc(string(text)))
		}
	}
	long := aText('l', 1<<20)
	if impl.Crc(long) != modelCrc(long) {
		t.Fatal("Crc of a long text")
	}
}

func TestCrcAskedByManyAtOnce(t *testing.T) {
	var all sync.WaitGroup
	got := make([]int64, 32)
	for i := range got {
		all.Go(func() { got[i] = impl.Crc("menhir" + strconv.Itoa(i)) })
	}
	all.Wait()
	for i, c := range got {
		if c != modelCrc("menhir"+strconv.Itoa(i)) {
			t.Errorf("asker %d was told %d", i, c)
		}
	}
}

func TestPackPageOfKnownPages(t *testing.T) {
	cases := []struct {
		number, epoch int64
		body, want    string
	}{
		{3, 7, "stone", "P3;7;4117313815;stone"},
		{0, 0, "", rawPage("0", "0", "")},
		{29, 999999999, "a;b\n", rawPage("29", "999999999", "a;b\n")},
		{10, 1000, "\xff\x00", rawPage("10", "1000", "\xff\x00")},
	}
	for _, c := range cases {
		if got, is := impl.PackPage(c.number, c.epoch, c.body); !is || got != c.want {
			t.Errorf("page %d of epoch %d is %q, %v, not %q", c.number, c.epoch, got, is, c.want)
		}
	}
}

func TestPackPageAtItsLimits(t *testing.T) {
	cases := []struct {
		number, epoch int64
		size          int
		want          bool
	}{
		{-1, 7, 5, false}, {0, 7, 5, true}, {29, 7, 5, true}, {30, 7, 5, false},
		{3, -1, 5, false}, {3, 0, 5, true}, {3, 999999999, 5, true}, {3, 1000000000, 5, false},
		{3, 7, 0, true}, {3, 7, 199, true}, {3, 7, 200, true}, {3, 7, 201, false}, {3, 7, 100000, false},
		{29, 999999999, 200, true}, {30, 1000000000, 201, false}, {-1, -1, 0, false},
	}
	for _, far := range append([]int64{100, 4294967295, 1 << 33}, farNumbers...) {
		cases = append(cases, struct {
			number, epoch int64
			size          int
			want          bool
		}{far, 7, 5, false})
		if far < 0 || far > 999999999 {
			cases = append(cases, struct {
				number, epoch int64
				size          int
				want          bool
			}{3, far, 5, false})
		}
	}
	for _, c := range cases {
		body, want := aText('b', c.size), ""
		if c.want {
			want = rawPage(strconv.FormatInt(c.number, 10), strconv.FormatInt(c.epoch, 10), body)
		}
		if got, is := impl.PackPage(c.number, c.epoch, body); is != c.want || got != want {
			t.Errorf("page %d of epoch %d with %d bytes is %.40q, %v", c.number, c.epoch, c.size, got, is)
		}
	}
}

func TestBodiesAreCountedInBytes(t *testing.T) {
	hundred := strings.Repeat("\u00e9", 100)
	if _, is := impl.PackPage(3, 7, hundred); !is {
		t.Error("200 bytes in 100 runes are refused")
	}
	if text, is := impl.PackPage(3, 7, hundred+"e"); is || text != "" {
		t.Error("201 bytes in 101 runes are packed")
	}
	wantCode(t, rawPage("3", "7", hundred+"e"), impl.PgRange)
}

func TestAPackedPageFitsASector(t *testing.T) {
	text, is := impl.PackPage(29, 999999999, aText('s', 200))
	if !is || len(text) > impl.SectorSize {
		t.Fatal(len(text), is)
	}
}

func TestOpenPageOfPackPage(t *testing.T) {
	epochs := []int64{0, 1, 9, 10, 7, 99999999, 100000000, 999999998, 999999999}
	for number := range int64(30) {
		for _, epoch := range epochs {
			for _, body := range someBodies() {
				text, is := impl.PackPage(number, epoch, body)
				if !is {
					t.Fatalf("page %d of epoch %d with %q was refused", number, epoch, body)
				}
				if got := open(text); got != (opened{number: number, epoch: epoch, body: body}) {
					t.Fatalf("page %d of epoch %d with %q is opened as %v", number, epoch, body, got)
				}
			}
		}
	}
}

func TestDrawnPages(t *testing.T) {
	n := numbers(22)
	for range 2000 {
		body := make([]byte, n.below(201))
		for i := range body {
			body[i] = byte(n.below(256))
		}
		want := opened{number: int64(n.below(30)), epoch: int64(n.below(1000000000)), body: string(body)}
		text, is := impl.PackPage(want.number, want.epoch, want.body)
		if got := open(text); !is || got != want || modelOpen(text) != want {
			t.Fatalf("%v is opened as %v", want, got)
		}
	}
}

func TestOneBitOfTheBodyIsTold(t *testing.T) {
	for _, body := range someBodies() {
		text, _ := impl.PackPage(29, 999999999, body)
		from := len(text) - len(body)
		for i := range len(body) {
			for bit := range 8 {
				turned := []byte(text)
				turned[from+i] ^= 1 << bit
				wantCode(t, string(turned), impl.PgSum)
			}
		}
	}
}

func TestOneBitAnywhereIsTold(t *testing.T) {
	text, _ := impl.PackPage(3, 7, "stone;\n")
	for i := range len(text) {
		for bit := range 8 {
			turned := []byte(text)
			turned[i] ^= 1 << bit
			got := open(string(turned))
			if got.code == 0 || got != modelOpen(string(turned)) {
				t.Errorf("%q is %v, not %v", turned, got, modelOpen(string(turned)))
			}
		}
	}
}

func TestTornAndGrownPagesAreTold(t *testing.T) {
	for _, body := range someBodies() {
		text, _ := impl.PackPage(3, 7, body)
		for i := range len(text) {
			if got := open(text[:i]); got.code == 0 || got != modelOpen(text[:i]) {
				t.Fatalf("the first %d bytes of %q are %v", i, text, got)
			}
		}
		for _, more := range []string{"\x00", ";", "\n", "P", text} {
			if got := open(text + more); got.code == 0 || got != modelOpen(text+more) {
				t.Fatalf("%q with %q behind it is %v", text, more, got)
			}
		}
	}
}

func TestPagesAnswerFarNumbers(t *testing.T) {
	defer noPanic(t, "far numbers")
	for _, far := range append([]int64{math.MinInt32, math.MaxInt32}, farNumbers...) {
		for _, body := range []string{"", "x", aText('q', 201)} {
			if text, is := impl.PackPage(far, far, body); is || text != "" {
				t.Errorf("page %d of epoch %d is packed", far, far)
			}
			text := rawPage(strconv.FormatInt(far, 10), "7", body)
			if got := open(text); got != modelOpen(text) {
				t.Errorf("%q is %v", text, got)
			}
		}
	}
}
