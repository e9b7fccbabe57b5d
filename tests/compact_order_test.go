package tests

import (
	"slices"
	"testing"

	"loop.example/g00140/impl"
)

// TestEachChoiceOfTheReached has three objects of unlike sizes in each space, each of which has itself, and roots to each choice of these: so there is garbage before, between and behind them.
func TestEachChoiceOfTheReached(t *testing.T) {
	self := func(hash int64, age int64, at int64) thing {
		fields := append(make([]int64, hash%4), ref(at), num(hash))
		return aThing(hash+20, hash, age, fields...)
	}
	bothWays(func(flip bool, used int64, s int64) {
		starts := []int64{0, 2000, used}
		var parts [3][]thing
		var places []int64
		for i := range int64(9) {
			at := starts[i/3]
			parts[i/3] = append(parts[i/3], self(i+1, i, at))
			places = append(places, at)
			starts[i/3] = at + 6 + (i+1)%4
		}
		h := laidHeap(flip, parts[0], parts[1], parts[2])
		for choice := range 512 {
			var left []thing
			var moves, was, roots []int64
			var end, garbage int64
			for i, at := range places {
				words := 6 + int64(i+1)%4
				if choice>>i&1 == 0 {
					moves = append(moves, -1)
					garbage += words
					continue
				}
				left = append(left, self(int64(i)+1, int64(i), end))
				moves, was, roots = append(moves, end), append(was, ref(at)), append(roots, ref(end))
				end += words
			}
			slices.Reverse(was)
			slices.Reverse(roots)
			wantPut(t, "choice "+digits(int64(choice)), rooted(h, was...), putHeap(h, left, roots...), garbage, moves...)
		}
	})
}

// TestObjectsThatMoveALittle has gaps that are smaller than what moves over them: what it was is written over by what it is.
func TestObjectsThatMoveALittle(t *testing.T) {
	row := func(at int64, gap int64, size int64) []thing {
		fields := make([]int64, size)
		for i := range fields {
			fields[i] = num(int64(i) * 3)
		}
		next := at + gap + 4 + size
		first, second := slices.Clone(fields), slices.Clone(fields)
		first[0], second[size-1] = ref(next), ref(at+gap)
		return []thing{aThing(1, 1, 0, first...), aThing(2, 2, 0, second...)}
	}
	for size := int64(2); size <= 60; size++ {
		for gap := int64(4); gap <= 64; gap += 1 + size/20 {
			for _, from := range []int64{0, 2000, 2600} {
				things := append([]thing{aThing(9, 9, 0, make([]int64, gap-4)...)}, row(from, gap, size)...)
				var parts [3][]thing
				parts[slices.Index([]int64{0, 2000, 2600}, from)] = things
				h := rooted(laidHeap(false, parts[0], parts[1], parts[2]), ref(from+gap))
				wantPut(t, "size "+digits(size)+", gap "+digits(gap), h, putHeap(h, row(0, 0, size), ref(0)), gap, -1, 0, 4+size)
			}
		}
	}
}

// TestManyGaps has small objects, of which every second, third and so on is reached, in a chain that goes down.
func TestManyGaps(t *testing.T) {
	for _, flip := range []bool{false, true} {
		for step := 2; step <= 9; step++ {
			row := func(n int, hash int64) []thing {
				var out []thing
				for i := range n {
					out = append(out, aThing(hash%100, hash+int64(i), 0, num(int64(i))))
				}
				return out
			}
			h := laidHeap(flip, row(400, 1), row(120, 1000), row(60, 2000))
			objects, _ := thingsOf(h)
			last := num(0)
			for i, at := range objects {
				if i%step == 0 {
					h.Words[at+4], last = last, ref(at)
				}
			}
			want := modelCompact(ended(h, last))
			wantCompact(t, "every "+digits(int64(step)), ended(h, last), want)
			wantPromised(t, "every "+digits(int64(step)), ended(h, last), want.heap)
			if count := (580 + step - 1) / step; want.heap.Old != int64(5*count) || impl.Garbage(ended(h, last)) != int64(5*(580-count)) {
				t.Errorf("every %d: %s", step, heapText(want.heap))
			}
		}
	}
}

// TestSizesOfCompactedObjects has an object of each size in each space, with fields that are all unlike.
func TestSizesOfCompactedObjects(t *testing.T) {
	bothWays(func(flip bool, used int64, s int64) {
		for size := range int64(61) {
			sized := func(hash int64) thing {
				fields := make([]int64, size)
				for i := range fields {
					fields[i] = num(hash*100 + int64(i))
				}
				return aThing(99, hash, hash, fields...)
			}
			with := func(hash int64) []thing { return []thing{aThing(7, hash+10, 0, 0), sized(hash), aThing(7, hash+20, 0)} }
			h := rooted(laidHeap(flip, with(1), with(2), with(3)), ref(used+5), ref(2005), ref(5))
			want := putHeap(h, []thing{sized(1), sized(2), sized(3)}, ref(8+2*size), ref(4+size), ref(0))
			wantPut(t, "size "+digits(size), h, want, 27, -1, 0, -1, -1, 4+size, -1, -1, 8+2*size, -1)
		}
	})
}

// TestTheOrderOfComingDoesNotCount has roots and fields in all orders: the addresses alone say who lies ahead.
func TestTheOrderOfComingDoesNotCount(t *testing.T) {
	bothWays(func(flip bool, used int64, s int64) {
		h := laidHeap(flip, bare(5, 1), bare(4, 2), bare(3, 6))
		was := []int64{ref(0), ref(4), ref(2000), ref(2004), ref(used), ref(used + 4)}
		n := numbers(101)
		for range 100 {
			roots, then := slices.Clone(was), []int64{ref(0), ref(4), ref(8), ref(12), ref(16), ref(20)}
			for i := range roots {
				k := n.below(i + 1)
				roots[i], roots[k] = roots[k], roots[i]
				then[i], then[k] = then[k], then[i]
			}
			want := putHeap(h, bare(5, 1, 4, 2, 3, 6), then...)
			wantPut(t, "roots", rooted(h, roots...), want, 0, 0, 4, 8, 12, 16, 20)
			one := ended(laidHeap(flip, append(bare(5, 1), aThing(1, 7, 0, roots...)), bare(4, 2), bare(3, 6)), ref(8))
			for i, w := range then {
				if w > ref(4) {
					then[i] += 2 * 10
				}
			}
			left := slices.Concat(bare(5, 1), []thing{aThing(1, 7, 0, then...)}, bare(4, 2, 3, 6))
			wantPut(t, "fields", one, putHeap(one, left, ref(8)), 0, 0, 4, 8, 18, 22, 26, 30)
		}
	})
}
