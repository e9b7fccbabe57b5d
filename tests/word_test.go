package tests

import (
	"math"
	"testing"

	"loop.example/g00140/impl"
)

func TestWordLimits(t *testing.T) {
	if impl.MaxInt != 1000000000 || impl.MaxWords != 3200 {
		t.Fatal(impl.MaxInt, impl.MaxWords)
	}
}

func TestWordsAreEvenOrOdd(t *testing.T) {
	none := asked{}
	for _, c := range []struct {
		word            int64
		number, address asked
	}{
		{0, asked{0, true}, none},
		{2, asked{1, true}, none},
		{-2, asked{-1, true}, none},
		{-14, asked{-7, true}, none},
		{6398, asked{3199, true}, none},
		{6400, asked{3200, true}, none},
		{1999999998, asked{999999999, true}, none},
		{2000000000, asked{1000000000, true}, none},
		{-1999999998, asked{-999999999, true}, none},
		{-2000000000, asked{-1000000000, true}, none},
		{1, none, asked{0, true}},
		{3, none, asked{1, true}},
		{201, none, asked{100, true}},
		{6397, none, asked{3198, true}},
		{6399, none, asked{3199, true}},
	} {
		wantWord(t, c.word, c.number, c.address)
	}
}

func TestNoWords(t *testing.T) {
	for _, w := range []int64{
		2000000002, 2000000001, 1999999999, -2000000002, -2000000001, -1999999999,
		-1, -3, -201, -6399, 6401, 6403, 2*impl.MaxWords + 1,
		math.MinInt64, math.MaxInt64,
	} {
		wantWord(t, w, asked{}, asked{})
	}
}

func TestIntAtItsLimits(t *testing.T) {
	for _, c := range []struct {
		n    int64
		want asked
	}{
		{0, asked{0, true}},
		{1, asked{2, true}},
		{-1, asked{-2, true}},
		{-7, asked{-14, true}},
		{3200, asked{6400, true}},
		{999999999, asked{1999999998, true}},
		{1000000000, asked{2000000000, true}},
		{1000000001, asked{}},
		{-999999999, asked{-1999999998, true}},
		{-1000000000, asked{-2000000000, true}},
		{-1000000001, asked{}},
		{2000000000, asked{}},
		{math.MinInt64, asked{}},
		{math.MaxInt64, asked{}},
	} {
		if w, is := impl.Int(c.n); (asked{w, is}) != c.want {
			t.Errorf("Int of %d is %d, %v", c.n, w, is)
		}
	}
}

func TestRefAtItsLimits(t *testing.T) {
	for _, c := range []struct {
		a    int64
		want asked
	}{
		{0, asked{1, true}},
		{1, asked{3, true}},
		{100, asked{201, true}},
		{1999, asked{3999, true}},
		{2000, asked{4001, true}},
		{3198, asked{6397, true}},
		{3199, asked{6399, true}},
		{3200, asked{}},
		{3201, asked{}},
		{6399, asked{}},
		{-1, asked{}},
		{-2, asked{}},
		{-3199, asked{}},
		{math.MinInt64, asked{}},
		{math.MaxInt64, asked{}},
	} {
		if w, is := impl.Ref(c.a); (asked{w, is}) != c.want {
			t.Errorf("Ref of %d is %d, %v", c.a, w, is)
		}
	}
}
