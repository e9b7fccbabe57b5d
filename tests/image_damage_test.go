package tests

import (
	"slices"
	"strings"
	"testing"

	"loop.example/g00140/impl"
)

// TestThawOfPagesWithOneByteChanged puts other bytes at each place, leaves it out, and puts one more in.
func TestThawOfPagesWithOneByteChanged(t *testing.T) {
	v := pagedVm()
	text := modelText(v)
	right, wrong := 0, 0
	count := func(name string, bodies []string) {
		if holdsToThaw(t, name, bodies, v.Program) {
			right++
		} else {
			wrong++
		}
	}
	for at := range text {
		name := "byte " + digits(int64(at))
		for _, b := range []byte("0123456789- \n+xP;.\x00\xff\r\t") {
			if b != text[at] {
				count(name+" changed", inPieces(text[:at]+string([]byte{b})+text[at+1:]))
			}
			count(name+", one more", inPieces(text[:at]+string([]byte{b})+text[at:]))
		}
		count(name+" left out", inPieces(text[:at]+text[at+1:]))
		count(name+" and the next one turned round", inPieces(text[:at]+text[min(at+1, len(text)-1):min(at+2, len(text))]+text[at:at+1]+text[min(at+2, len(text)):]))
	}
	if right < 300 || wrong < 10000 {
		t.Errorf("%d right and %d wrong ones are too few of a kind", right, wrong)
	}
}

// TestThawOfEachByte has all bytes at some places.
func TestThawOfEachByte(t *testing.T) {
	v := pagedVm()
	text := modelText(v)
	for at := 0; at < len(text); at += 7 {
		for b := range 256 {
			holdsToThaw(t, "a byte", inPieces(text[:at]+string([]byte{byte(b)})+text[at+1:]), v.Program)
		}
	}
}

// TestThawOfDrawnDamage changes lines, numbers and bytes of pages that drawn machines have.
func TestThawOfDrawnDamage(t *testing.T) {
	n := numbers(174)
	right, wrong := 0, 0
	for _, v := range drawnVms(t, &n, 10, 30) {
		v = impl.RunVm(v, int64(n.below(300)))
		text := modelText(v)
		if _, words := modelShape(v.Heap); len(text) > 6000 || words > 2000 {
			continue
		}
		for range 60 {
			hurt := hurtText(&n, text)
			if n.below(3) == 0 {
				hurt = hurtText(&n, hurt)
			}
			if holdsToThaw(t, "hurt", inPieces(hurt), v.Program) {
				right++
			} else {
				wrong++
			}
		}
		if t.Failed() {
			return
		}
	}
	if right < 100 || wrong < 1000 {
		t.Errorf("%d right and %d wrong ones are too few of a kind", right, wrong)
	}
}

// hurtText changes one line, one number or one byte.
func hurtText(n *numbers, text string) string {
	lines := strings.SplitAfter(text, "\n")
	i, k := n.below(len(lines)), n.below(len(lines))
	words := strings.Split(lines[i], " ")
	w := n.below(len(words))
	near := []string{"0", "1", "2", "3", "4", "5", "-1", "-2", "39", "78", "80", "100", "101", "300", "2000000000", "1999999999", "2000000001", "2000000002", "-2000000000", "-2000000002", "6399", "6401", "1000000000", "1000000001", ""}
	switch n.below(8) {
	case 0:
		lines[i], lines[k] = lines[k], lines[i]
	case 1:
		lines = slices.Delete(lines, i, i+1)
	case 2:
		lines = slices.Insert(lines, i, lines[k])
	case 3:
		words = slices.Delete(words, w, w+1)
		lines[i] = strings.Join(words, " ")
	case 4:
		words = slices.Insert(words, w, near[n.below(len(near))])
		lines[i] = strings.Join(words, " ")
	case 5, 6:
		end := strings.HasSuffix(words[w], "\n")
		words[w] = near[n.below(len(near))]
		if end {
			words[w] += "\n"
		}
		lines[i] = strings.Join(words, " ")
	default:
		at := n.below(len(text))
		return text[:at] + string([]byte{byte(n.below(256))}) + text[at+1:]
	}
	return strings.Join(lines, "")
}

// TestThawRefusesWrongHeads has Pc, State and Hash that no such machine has, and each one that it may have.
func TestThawRefusesWrongHeads(t *testing.T) {
	v := pagedVm()
	lines := linesOfPages(v)
	for pc := int64(-2); pc <= 102; pc++ {
		bodies := withLine(lines, 0, digits(pc)+" 0 42")
		if between(0, pc, 12) {
			wantThawed(t, "Pc", bodies, v.Program, frozen(withPc(v, pc)))
		} else {
			wantNotThawed(t, "Pc "+digits(pc), bodies, v.Program)
		}
	}
	for state := int64(-2); state <= 10; state++ {
		bodies := withLine(lines, 0, "1 "+digits(state)+" 42")
		if between(0, state, 3) {
			wantThawed(t, "State", bodies, v.Program, frozen(withState(v, state)))
		} else {
			wantNotThawed(t, "State "+digits(state), bodies, v.Program)
		}
	}
	for _, hash := range []int64{-1, 0, 1, 2, 3, 11, 21, 40, 41, 42, 43, 100, 999999999, 1000000000, 1000000001, 4294967338, 9999999999} {
		bodies := withLine(lines, 0, "1 0 "+digits(hash))
		if between(42, hash, 1000000000) {
			wantThawed(t, "Hash", bodies, v.Program, frozen(shifted(v, func(v *impl.Vm) { v.Heap.Hash = hash })))
		} else {
			wantNotThawed(t, "Hash "+digits(hash), bodies, v.Program)
		}
	}
	for _, head := range []string{"", "1", "1 0", "1 0 42 0", "1 0 42 42", "0 1 42 ", " 1 0 42", "42", "1 42", "1 0 0 42", "1,0,42", "x"} {
		wantNotThawed(t, "the head "+head, withLine(lines, 0, head), v.Program)
	}
	for _, far := range farHeapNumbers {
		for _, head := range []string{digits(far) + " 0 42", "1 " + digits(far) + " 42", "1 0 " + digits(far)} {
			wantNotThawed(t, "the head "+head, withLine(lines, 0, head), v.Program)
		}
	}
	wantNotThawed(t, "no head", withLine(lines, 0), v.Program)
	wantNotThawed(t, "the head twice", withLine(lines, 0, lines[0], lines[0]), v.Program)
	wantNotThawed(t, "the head alone", relined(lines[0]), v.Program)
	wantNotThawed(t, "no node", relined(lines[:2]...), v.Program)
}

// TestThawRefusesWrongOuts has more or fewer numbers than are told, too many, and some that are too far.
func TestThawRefusesWrongOuts(t *testing.T) {
	v := pagedVm()
	lines := linesOfPages(v)
	outs := func(count int64, out ...int64) string {
		return strings.TrimSuffix(lineOf(append([]int64{count}, out...)...), "\n")
	}
	for _, out := range [][]int64{nil, {0}, {-1}, {1000000000}, {-1000000000}, {5, 5}, make([]int64, 299), make([]int64, 300), slices.Repeat([]int64{-1000000000, 1000000000}, 150)} {
		size := int64(len(out))
		wantThawed(t, "Out", withLine(lines, 1, outs(size, out...)), v.Program, frozen(shifted(v, func(v *impl.Vm) { v.Out = out })))
		for _, count := range []int64{-1, size - 1, size + 1, 300, 301, 1 << 32, 1<<32 + size} {
			if count != size {
				wantNotThawed(t, digits(count)+" told of "+digits(size), withLine(lines, 1, outs(count, out...)), v.Program)
			}
		}
	}
	for _, size := range []int{301, 302, 400, 1000, 2000} {
		wantNotThawed(t, "too many", withLine(lines, 1, outs(int64(size), make([]int64, size)...)), v.Program)
	}
	for _, far := range []int64{1000000001, -1000000001, 2000000000, -2000000000, 9999999999, 1 << 32} {
		for _, at := range []int{0, 1, 8} {
			out := make([]int64, 9)
			out[at] = far
			wantNotThawed(t, "Out "+digits(far), withLine(lines, 1, outs(9, out...)), v.Program)
		}
	}
	wantNotThawed(t, "no Out", withLine(lines, 1), v.Program)
	wantNotThawed(t, "an empty line for Out", withLine(lines, 1, ""), v.Program)
	wantNotThawed(t, "Out twice", withLine(lines, 1, "0", "0"), v.Program)
	wantNotThawed(t, "Out in two lines", withLine(lines, 1, "2 5", "5"), v.Program)
	wantNotThawed(t, "the head behind Out", relined(append([]string{lines[1], lines[0]}, lines[2:]...)...), v.Program)
}
