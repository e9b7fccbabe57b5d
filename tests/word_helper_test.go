package tests

import (
	"math"
	"testing"

	"loop.example/g00140/impl"
)

// asked is what a function of a word answers: a number, and whether it is one.
type asked struct {
	value int64
	is    bool
}

// modelWord says the chapter again as lists: which words there are, and the number or the address of each.
type modelWord struct {
	ints map[int64]int64
	refs map[int64]int64
}

// wordsNear knows the words of the numbers that lie near one of these, and all addresses.
func wordsNear(reach int64, near ...int64) modelWord {
	m := modelWord{ints: map[int64]int64{}, refs: map[int64]int64{}}
	for _, n := range near {
		for k := n - reach; k <= n+reach; k++ {
			if k >= -1000000000 && k <= 1000000000 {
				m.ints[k+k] = k
			}
		}
	}
	for a := int64(0); a <= 3199; a++ {
		m.refs[a+a+1] = a
	}
	return m
}

func (m modelWord) intOf(w int64) asked {
	n, is := m.ints[w]
	return asked{n, is}
}

func (m modelWord) refOf(w int64) asked {
	a, is := m.refs[w]
	return asked{a, is}
}

// wantWord fails unless w is a word of just these.
func wantWord(t *testing.T, w int64, number asked, address asked) {
	t.Helper()
	if got := impl.WordOk(w); got != (number.is || address.is) {
		t.Errorf("WordOk of %d is %v", w, got)
	}
	if n, is := impl.IntOf(w); (asked{n, is}) != number {
		t.Errorf("IntOf of %d is %d, %v, not %d, %v", w, n, is, number.value, number.is)
	}
	if a, is := impl.RefOf(w); (asked{a, is}) != address {
		t.Errorf("RefOf of %d is %d, %v, not %d, %v", w, a, is, address.value, address.is)
	}
}

// farWords are no words, and no numbers or addresses of one: doubled, halved or cut to fewer bits some of them would be.
func farWords() []int64 {
	out := []int64{math.MinInt64, math.MinInt64 + 1, math.MinInt64 + 2, math.MaxInt64 - 2, math.MaxInt64 - 1, math.MaxInt64}
	for _, ahead := range []int64{1 << 31, 1 << 32, 1 << 33, 1 << 62, 1<<62 + 1<<32, 1<<63 - 1<<32, -1 << 32, -1 << 33, -1 << 62, -1 << 63} {
		for behind := int64(0); behind < 9; behind++ {
			out = append(out, ahead+behind, ahead+6399-behind)
		}
	}
	return out
}
