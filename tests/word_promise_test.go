package tests

import (
	"testing"

	"loop.example/g00140/impl"
)

// someInts are the numbers near both ends and near 0, and some that are drawn between them.
func someInts() []int64 {
	var out []int64
	for k := int64(0); k <= 7000; k++ {
		out = append(out, k, -k, 1000000000-k, k-1000000000)
	}
	n := numbers(41)
	for range 20000 {
		out = append(out, int64(n.below(2000000001))-1000000000)
	}
	return out
}

func TestIntOfIntIsTheNumber(t *testing.T) {
	for _, n := range someInts() {
		w, is := impl.Int(n)
		if !is {
			t.Fatalf("%d is no number of a word", n)
		}
		wantWord(t, w, asked{n, true}, asked{})
	}
}

func TestRefOfRefIsTheAddress(t *testing.T) {
	for a := int64(0); a < impl.MaxWords; a++ {
		w, is := impl.Ref(a)
		if !is {
			t.Fatalf("%d is no address of a word", a)
		}
		wantWord(t, w, asked{}, asked{a, true})
	}
}

func TestNoTwoWordsAreAlike(t *testing.T) {
	of := map[int64]string{}
	know := func(w int64, what string) {
		if had, is := of[w]; is {
			t.Fatalf("%d is the word of %s and of %s", w, had, what)
		}
		of[w] = what
	}
	for k := int64(-4000); k <= 4000; k++ {
		w, _ := impl.Int(k)
		know(w, "number "+digits(k))
	}
	for a := int64(0); a < impl.MaxWords; a++ {
		w, _ := impl.Ref(a)
		know(w, "address "+digits(a))
	}
}

// TestNoWordIsBoth goes over every word from one end of the addresses to the other, and over the ends of the numbers.
func TestNoWordIsBoth(t *testing.T) {
	m := wordsNear(5000, -1000000000, 0, 1000000000)
	for _, near := range []int64{-2000000000, 0, 2000000000} {
		for w := near - 9000; w <= near+9000; w++ {
			wantWord(t, w, m.intOf(w), m.refOf(w))
			if t.Failed() {
				return
			}
		}
	}
}

// TestWhatIsReadIsMadeAgain asks the other way round: a word's number or address makes that word.
func TestWhatIsReadIsMadeAgain(t *testing.T) {
	for w := int64(-9000); w <= 9000; w++ {
		if n, is := impl.IntOf(w); is {
			if again, _ := impl.Int(n); again != w {
				t.Fatalf("%d is number %d, whose word is %d", w, n, again)
			}
		}
		if a, is := impl.RefOf(w); is {
			if again, _ := impl.Ref(a); again != w {
				t.Fatalf("%d is address %d, whose word is %d", w, a, again)
			}
		}
	}
}

func TestFarNumbersAreNoWords(t *testing.T) {
	defer noPanic(t, "far numbers")
	for _, w := range farWords() {
		wantWord(t, w, asked{}, asked{})
		if made, is := impl.Int(w); is || made != 0 {
			t.Errorf("Int of %d is %d, %v", w, made, is)
		}
		if made, is := impl.Ref(w); is || made != 0 {
			t.Errorf("Ref of %d is %d, %v", w, made, is)
		}
	}
}
