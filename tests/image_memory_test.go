package tests

import (
	"runtime"
	"slices"
	"sync"
	"testing"
	"time"

	"loop.example/g00140/impl"
)

// imageArguments are all lists that a function of the chapter may be given.
type imageArguments struct {
	vm     impl.Vm
	disk   impl.Disk
	bodies []string
	lands  []bool
}

// imageAnswer is all that one function of the chapter may answer.
type imageAnswer struct {
	vm     impl.Vm
	disk   impl.Disk
	bodies []string
}

func (a imageAnswer) same(b imageAnswer) bool {
	return sameVm(a.vm, b.vm) && sameDisk(a.disk, b.disk) && slices.Equal(a.bodies, b.bodies)
}

func (a imageAnswer) clone() imageAnswer {
	return imageAnswer{cloneVm(a.vm), impl.Disk{Sectors: slices.Clone(a.disk.Sectors), Late: slices.Clone(a.disk.Late)}, slices.Clone(a.bodies)}
}

func (a imageAnswer) scribble() {
	scribbleVm(a.vm)
	scribble(a.disk)
	scribble(impl.Disk{Sectors: a.bodies})
}

func (a imageAnswer) pieces() []piece {
	return append(vmPieces(a.vm), pieceOf(a.disk.Sectors), pieceOf(a.disk.Late), pieceOf(a.bodies))
}

func (a imageAnswer) texts() []string {
	return slices.Concat(textsOf(a.disk), textsOf(impl.Disk{Sectors: a.bodies}))
}

// roomyImage has marked spare room behind each list.
func roomyImage(a imageArguments) imageArguments {
	shadow := roomyArguments(shadowArguments{a.disk, a.bodies, a.lands})
	return imageArguments{roomyVm(a.vm), shadow.disk, shadow.bodies, shadow.lands}
}

func (a imageArguments) wantAs(t *testing.T, name string, was imageArguments) {
	t.Helper()
	wantSameRoomyVm(t, name, a.vm, was.vm)
	shadowArguments{a.disk, a.bodies, a.lands}.wantAs(t, name, shadowArguments{was.disk, was.bodies, was.lands})
}

func (a imageArguments) scribble() {
	scribbleVm(a.vm)
	shadowArguments{a.disk, a.bodies, a.lands}.scribble()
}

func (a imageArguments) pieces() []piece {
	return append(vmPieces(a.vm), pieceOf(a.disk.Sectors), pieceOf(a.disk.Late), pieceOf(a.bodies))
}

func (a imageArguments) texts() []string {
	return slices.Concat(textsOf(a.disk), textsOf(impl.Disk{Sectors: a.bodies}))
}

type imageCall struct {
	name string
	call func(a imageArguments) imageAnswer
}

func imageCalls() []imageCall {
	cut := func(done int64, torn int64) func(imageArguments) imageAnswer {
		return func(a imageArguments) imageAnswer {
			return imageAnswer{disk: impl.SaveCut(a.disk, a.vm, done, a.lands, torn)}
		}
	}
	return []imageCall{
		{"Freeze", func(a imageArguments) imageAnswer {
			bodies, _ := impl.Freeze(a.vm)
			return imageAnswer{bodies: bodies}
		}},
		{"Thaw", func(a imageArguments) imageAnswer {
			v, _ := impl.Thaw(a.bodies, a.vm.Program)
			return imageAnswer{vm: v}
		}},
		{"Save", func(a imageArguments) imageAnswer {
			d, _ := impl.Save(a.disk, a.vm)
			return imageAnswer{disk: d}
		}},
		{"SaveCut at none", cut(0, -1)}, {"SaveCut at one", cut(1, -1)}, {"SaveCut, torn", cut(2, 1)}, {"SaveCut at all", cut(99, -1)}, {"SaveCut below 0", cut(-1, 0)},
		{"Restart", func(a imageArguments) imageAnswer {
			v, _ := impl.Restart(a.disk, a.vm.Program)
			return imageAnswer{vm: v}
		}},
	}
}

// imageGiven are arguments of all kinds: right and wrong machines, with pages and disks of their own, of others, and with wrong ones.
func imageGiven(t *testing.T) []imageArguments {
	paged := pagedVm()
	machines := append(savedVms(t), namedVm{"too large", sizedVm(t, 10, 6001)}, namedVm{"too large by far", sizedVm(t, 10, 7000)}, namedVm{"the zero Vm", impl.Vm{}}, namedVm{"wrong", withPc(paged, 13)}, namedVm{"wrong", withState(paged, 4)})
	saved := mustSave(t, mustSave(t, impl.NewDisk(), paged), mustNewVm(t, nil))
	disks := []impl.Disk{impl.NewDisk(), saved, lateDisk(t, saved, impl.Write{Sector: 3, Text: "late"}), mustCommit(t, saved, "one", "two"), fullDisk(), {}, wrongDisks()[5].disk}
	var out []imageArguments
	for i, c := range machines {
		own, _ := impl.Freeze(c.vm)
		bodies := [][]string{own, mustFreeze(t, paged), {"one"}, nil, append(slices.Clone(own), "")}
		for k := range bodies {
			out = append(out, imageArguments{c.vm, disks[(i+k)%len(disks)], bodies[k], drawnBits(i + k)})
		}
		if d, is := impl.Save(impl.NewDisk(), c.vm); is {
			out = append(out, imageArguments{c.vm, d, own, allTrue(40)})
		}
	}
	return out
}

func drawnBits(i int) []bool { return bitsOf(i*37, i%9) }

func TestImageArgumentsStay(t *testing.T) {
	for _, a := range imageGiven(t) {
		for _, f := range imageCalls() {
			given := roomyImage(a)
			out := f.call(given)
			given.wantAs(t, f.name, a)
			wantApart(t, f.name, slices.Concat(given.pieces(), out.pieces())...)
			out.scribble()
			given.wantAs(t, f.name+", scribbled", a)
		}
	}
}

func TestImageAnswersAreNewMemory(t *testing.T) {
	for _, a := range imageGiven(t) {
		for _, f := range imageCalls() {
			given := roomyImage(a)
			first, second := f.call(given), f.call(given)
			was := first.clone()
			wantApart(t, "two answers of "+f.name, slices.Concat(first.pieces(), second.pieces())...)
			second.scribble()
			if !first.same(was) {
				t.Errorf("%s: two answers share memory", f.name)
			}
			given.scribble()
			if !first.same(was) {
				t.Errorf("%s: the answer changed with the argument", f.name)
			}
		}
	}
}

// TestImageTextsAreNewMemory holds the texts of an answer against those of the arguments, and against each other; those of one byte Go itself keeps for all.
func TestImageTextsAreNewMemory(t *testing.T) {
	for _, a := range imageGiven(t) {
		for _, f := range imageCalls() {
			answer := f.call(a).texts()
			for i, text := range answer {
				for _, other := range slices.Concat(a.texts(), answer[:i]) {
					if len(text) > 1 && sharesBytes(text, other) {
						t.Fatalf("%s: %q shares memory with another text", f.name, text)
					}
				}
			}
		}
	}
}

// TestListsOfAThawedMachineShareNothing appends to each list of an answer: it must not come to be another one's.
func TestListsOfAThawedMachineShareNothing(t *testing.T) {
	for _, c := range savedVms(t) {
		thawed, _ := impl.Thaw(mustFreeze(t, c.vm), c.vm.Program)
		restarted, _ := impl.Restart(mustSave(t, impl.NewDisk(), c.vm), c.vm.Program)
		for _, v := range []impl.Vm{thawed, restarted} {
			was := cloneVm(v)
			roots, kept, words, out := append(v.Heap.Roots, 5), append(v.Heap.Kept, 6), append(v.Heap.Words, 7), append(v.Out, 8)
			codes := append(v.Program, impl.Code{Op: 9})
			if !sameVm(v, was) || roots[len(v.Heap.Roots)] != 5 || kept[len(v.Heap.Kept)] != 6 || words[len(v.Heap.Words)] != 7 || out[len(v.Out)] != 8 || codes[len(v.Program)].Op != 9 {
				t.Errorf("%s: two lists share spare room", c.name)
			}
		}
	}
}

// TestImagesHangOnTheArgumentsAlone asks for one thing, for others, and for the first one again; and with spare room behind.
func TestImagesHangOnTheArgumentsAlone(t *testing.T) {
	given := imageGiven(t)
	for i, a := range given {
		for _, f := range imageCalls() {
			before := f.call(a)
			f.call(given[(i+7)%len(given)])
			if !f.call(a).same(before) || !f.call(roomyImage(a)).same(before) {
				t.Errorf("%s: it is another one now", f.name)
			}
		}
	}
}

func TestImagesAskedByManyAtOnce(t *testing.T) {
	given := imageGiven(t)
	var want []imageAnswer
	for _, a := range given {
		for _, f := range imageCalls() {
			want = append(want, f.call(a))
		}
	}
	var all sync.WaitGroup
	for range 8 {
		all.Go(func() {
			at := 0
			for _, a := range given {
				for _, f := range imageCalls() {
					if !f.call(a).same(want[at]) {
						t.Errorf("%s: it is another one", f.name)
					}
					at++
				}
			}
		})
	}
	all.Wait()
}

// TestNoGoroutineIsLeftBehind calls all functions with arguments of all kinds, often: in the end there are as many goroutines as ahead.
func TestNoGoroutineIsLeftBehind(t *testing.T) {
	given := imageGiven(t)
	for _, a := range given {
		for _, f := range imageCalls() {
			before := runtime.NumGoroutine()
			for range 20 {
				f.call(a)
			}
			// One that has closed its channel may be told still for a moment.
			for end := time.Now().Add(10 * time.Second); runtime.NumGoroutine() > before && time.Now().Before(end); {
				time.Sleep(time.Millisecond)
			}
			if now := runtime.NumGoroutine(); now > before {
				t.Fatalf("%s: %d goroutines, %d ahead of it", f.name, now, before)
			}
		}
	}
}
