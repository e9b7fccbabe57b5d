package tests

import (
	"slices"
	"testing"

	"loop.example/g00140/impl"
)

// hashesFrom are the hashes of the objects in words from one address up to another, as they lie there.
func hashesFrom(h impl.Heap, from int64, to int64) []int64 {
	var out []int64
	for at := from; at < to; at += 4 + h.Words[at] {
		out = append(out, h.Words[at+2])
	}
	return out
}

// wantOrder fails unless the moved come to lie behind the old objects, and in the other survivors, in this order of hashes.
func wantOrder(t *testing.T, name string, h impl.Heap, old []int64, surv []int64) {
	t.Helper()
	then, is := impl.Scavenge(h)
	if !is {
		t.Fatalf("%s: Scavenge says false", name)
	}
	gotOld, gotSurv := hashesFrom(then, h.Old, then.Old), hashesFrom(then, otherSurvivors(h.Flip), then.Surv)
	if !slices.Equal(gotOld, old) || !slices.Equal(gotSurv, surv) {
		t.Errorf("%s: they lie as %v and %v, not as %v and %v", name, gotOld, gotSurv, old, surv)
	}
	if n, promoted := impl.Survivors(h), impl.Promote(h); n != int64(len(old)+len(surv)) || promoted != int64(len(old)) {
		t.Errorf("%s: Survivors are %d, Promote is %d", name, n, promoted)
	}
	wantSameGraph(t, name, h, then)
}

// bare are young things without a field and with the age 0.
func bare(hashes ...int64) []thing {
	var out []thing
	for _, hash := range hashes {
		out = append(out, aThing(1, hash, 0))
	}
	return out
}

func TestRootsInOrder(t *testing.T) {
	bothWays(func(flip bool, used int64, s int64) {
		h := laidHeap(flip, nil, bare(1, 2, 3), bare(4, 5))
		roots := []int64{ref(2000), ref(2004), ref(2008), ref(used), ref(used + 4)}
		for _, order := range [][]int64{{1, 2, 3, 4, 5}, {5, 4, 3, 2, 1}, {4, 1, 5, 2, 3}, {3, 4, 1}, {2}, {5, 1}, {2, 2, 5, 2, 1, 5}} {
			var told []int64
			var once []int64
			for _, k := range order {
				told = append(told, roots[k-1])
				if !slices.Contains(once, k) {
					once = append(once, k)
				}
			}
			wantOrder(t, "roots", rooted(h, told...), nil, once)
		}
	})
}

func TestFieldsInOrder(t *testing.T) {
	bothWays(func(flip bool, used int64, s int64) {
		fields := []int64{ref(used), ref(2008), num(2000), ref(2000), ref(used), ref(0), ref(2004)}
		kept := ended(laidHeap(flip, []thing{aThing(1, 9, 0, fields...)}, bare(1, 2, 3), bare(4)))
		wantOrder(t, "fields of an old object", kept, nil, []int64{4, 3, 1, 2})
		young := laidHeap(flip, bare(8), slices.Concat(bare(1, 2, 3), []thing{aThing(1, 9, 0, fields...)}), bare(4))
		wantOrder(t, "fields of a young object", rooted(young, ref(2012)), nil, []int64{9, 4, 3, 1, 2})
	})
}

// TestKeptOnesRising has old objects whose fields lead to young ones against the order of these.
func TestKeptOnesRising(t *testing.T) {
	bothWays(func(flip bool, used int64, s int64) {
		old := []thing{aThing(1, 6, 0, ref(used)), aThing(1, 7, 0, ref(2008), ref(2004)), aThing(1, 8, 0, num(3)), aThing(1, 9, 0, ref(2000), ref(used))}
		h := ended(laidHeap(flip, old, bare(1, 2, 3), bare(4)))
		wantOrder(t, "kept ones", h, nil, []int64{4, 3, 2, 1})
		wantOrder(t, "kept ones, whatever the roots reach first", ended(h, ref(16), ref(5)), nil, []int64{4, 3, 2, 1})
	})
}

// TestRootsThenKeptOnesThenTheMoved has the same four young objects in three ways.
func TestRootsThenKeptOnesThenTheMoved(t *testing.T) {
	bothWays(func(flip bool, used int64, s int64) {
		old := []thing{aThing(1, 8, 0, ref(2005)), aThing(1, 9, 0, ref(used))}
		eden := []thing{aThing(1, 1, 0, ref(2014)), aThing(1, 2, 0, ref(2010)), aThing(1, 3, 0), aThing(1, 4, 0)}
		h := laidHeap(flip, old, eden, bare(5))
		wantOrder(t, "a root, then kept ones, then fields", ended(h, ref(2000)), nil, []int64{1, 2, 5, 4, 3})
		wantOrder(t, "a kept one that is a root too", ended(h, ref(used), ref(2000)), nil, []int64{5, 1, 2, 4, 3})
		wantOrder(t, "an old root is not gone into", ended(h, ref(5), ref(2000), ref(0)), nil, []int64{1, 2, 5, 4, 3})
		wantOrder(t, "a field's object that is a root too", ended(h, ref(2010), ref(2014)), nil, []int64{3, 4, 2, 5})
	})
}

// TestTheMovedInTheOrderOfMoves has a tree: its rows come one after the other, not its branches.
func TestTheMovedInTheOrderOfMoves(t *testing.T) {
	bothWays(func(flip bool, used int64, s int64) {
		eden := []thing{
			aThing(1, 1, 0, ref(2006), ref(2012)), aThing(1, 2, 0, ref(2018), ref(2022)), aThing(1, 3, 0, ref(2026), ref(used)),
			aThing(1, 4, 0), aThing(1, 5, 0), aThing(1, 6, 0),
		}
		h := laidHeap(flip, nil, eden, bare(7))
		wantOrder(t, "a tree", rooted(h, ref(2000)), nil, []int64{1, 2, 3, 4, 5, 6, 7})
		wantOrder(t, "a branch ahead", rooted(h, ref(2012), ref(2000)), nil, []int64{3, 1, 6, 7, 2, 4, 5})
	})
}

// TestOneOrderForBothSpaces has moved objects in both spaces: whose fields come first is told by which was moved first, not by where it is.
func TestOneOrderForBothSpaces(t *testing.T) {
	bothWays(func(flip bool, used int64, s int64) {
		eden := []thing{aThing(1, 1, 2, ref(2010)), aThing(1, 2, 0, ref(2014)), aThing(1, 3, 0), aThing(1, 4, 0), aThing(1, 5, 2), aThing(1, 6, 2)}
		h := laidHeap(flip, bare(9), eden, nil)
		wantOrder(t, "an old one first", rooted(h, ref(2000), ref(2005)), []int64{1}, []int64{2, 3, 4})
		wantOrder(t, "a young one first", rooted(h, ref(2005), ref(2000)), []int64{1}, []int64{2, 4, 3})
		eden[0], eden[1] = aThing(1, 1, 2, ref(2018)), aThing(1, 2, 0, ref(2022))
		h = laidHeap(flip, bare(9), eden, nil)
		wantOrder(t, "an old one first, to the old space", rooted(h, ref(2000), ref(2005)), []int64{1, 5, 6}, []int64{2})
		wantOrder(t, "a young one first, to the old space", rooted(h, ref(2005), ref(2000)), []int64{1, 6, 5}, []int64{2})
	})
}

// TestALongChain goes through eden from its end to its start, and on through the survivors.
func TestALongChain(t *testing.T) {
	bothWays(func(flip bool, used int64, s int64) {
		var eden []thing
		var order []int64
		for i := range int64(40) {
			eden = append(eden, aThing(1, i+1, 0, ref(max(2000, 2000+(i-1)*5))))
			order = append(order, 40-i)
		}
		eden[0].fields[0] = ref(used)
		h := laidHeap(flip, nil, eden, []thing{aThing(1, 41, 0, ref(used+5)), aThing(1, 42, 0, ref(2195))})
		wantOrder(t, "a chain", rooted(h, ref(2195)), nil, append(order, 41, 42))
	})
}
