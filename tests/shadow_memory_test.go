package tests

import (
	"slices"
	"testing"

	"loop.example/g00140/impl"
)

// shadowAnswer is all that one function of the chapter may answer.
type shadowAnswer struct {
	disk    impl.Disk
	writes  []impl.Write
	sectors []int64
	texts   []string
}

func (a shadowAnswer) same(b shadowAnswer) bool {
	return sameDisk(a.disk, b.disk) && slices.Equal(a.writes, b.writes) && slices.Equal(a.sectors, b.sectors) && slices.Equal(a.texts, b.texts)
}

func (a shadowAnswer) clone() shadowAnswer {
	return shadowAnswer{impl.Disk{Sectors: slices.Clone(a.disk.Sectors), Late: slices.Clone(a.disk.Late)}, slices.Clone(a.writes), slices.Clone(a.sectors), slices.Clone(a.texts)}
}

// scribble writes over all that an answer has, and over its spare room.
func (a shadowAnswer) scribble() {
	scribble(a.disk)
	scribble(impl.Disk{Late: a.writes, Sectors: a.texts})
	sectors := a.sectors[:cap(a.sectors)]
	for i := range sectors {
		sectors[i] = 99
	}
}

func (a shadowAnswer) allTexts() []string {
	return slices.Concat(textsOf(a.disk), textsOf(impl.Disk{Sectors: a.texts, Late: a.writes}))
}

// shadowArguments are all lists that a function of the chapter may be given, with marked spare room.
type shadowArguments struct {
	disk   impl.Disk
	bodies []string
	lands  []bool
}

func roomyArguments(a shadowArguments) shadowArguments {
	bodies := slices.Concat(a.bodies, slices.Repeat([]string{"spare"}, spare))
	lands := slices.Concat(a.lands, allTrue(spare))
	return shadowArguments{roomyDisk(a.disk), bodies[:len(a.bodies)], lands[:len(a.lands)]}
}

func (a shadowArguments) wantAs(t *testing.T, name string, was shadowArguments) {
	t.Helper()
	wantUntouched(t, name, a.disk, was.disk)
	bodies, lands := a.bodies[:len(a.bodies)+spare], a.lands[:len(a.lands)+spare]
	if !slices.Equal(bodies, slices.Concat(was.bodies, slices.Repeat([]string{"spare"}, spare))) {
		t.Errorf("%s: the bodies were changed, or what is behind them", name)
	}
	if !slices.Equal(lands, slices.Concat(was.lands, allTrue(spare))) {
		t.Errorf("%s: lands was changed, or what is behind it", name)
	}
}

func (a shadowArguments) scribble() {
	scribble(a.disk)
	scribble(impl.Disk{Sectors: a.bodies})
	clear(a.lands[:cap(a.lands)])
}

type shadowCall struct {
	name string
	call func(a shadowArguments) shadowAnswer
}

func shadowCalls() []shadowCall {
	cut := func(done int64, torn int64) func(shadowArguments) shadowAnswer {
		return func(a shadowArguments) shadowAnswer {
			return shadowAnswer{disk: impl.Cut(a.disk, a.bodies, done, a.lands, torn)}
		}
	}
	return []shadowCall{
		{"Newest", func(a shadowArguments) shadowAnswer {
			_, sectors := impl.Newest(a.disk)
			return shadowAnswer{sectors: sectors}
		}},
		{"Pages", func(a shadowArguments) shadowAnswer {
			texts, _ := impl.Pages(a.disk)
			return shadowAnswer{texts: texts}
		}},
		{"Commit", func(a shadowArguments) shadowAnswer {
			d, _ := impl.Commit(a.disk, a.bodies)
			return shadowAnswer{disk: d}
		}},
		{"Script", func(a shadowArguments) shadowAnswer { return shadowAnswer{writes: impl.Script(a.disk, a.bodies)} }},
		{"Cut at none", cut(0, -1)}, {"Cut at one", cut(1, -1)}, {"Cut, torn", cut(2, 1)},
		{"Cut at all", cut(99, -1)}, {"Cut at all, torn", cut(99, 0)}, {"Cut below 0", cut(-1, 0)},
	}
}

func memoryArguments(t *testing.T) []shadowArguments {
	d := lateDisk(t, mustCommit(t, mustCommit(t, impl.NewDisk(), "one", "two", "three"), "one", "2", "three", "four"), impl.Write{Sector: 3, Text: "late"})
	var out []shadowArguments
	for _, bodies := range [][]string{nil, {"one", "2"}, {"one", "2", "three", "four"}, {aText('a', 40), "2", aText('b', 200)}, {aText('c', 201)}, make([]string, 30), make([]string, 31)} {
		for _, lands := range [][]bool{nil, {true}, {false, true, true}, allTrue(40)} {
			out = append(out, shadowArguments{d, bodies, lands}, shadowArguments{impl.NewDisk(), bodies, lands}, shadowArguments{fullDisk(), bodies, lands})
		}
	}
	for _, c := range wrongDisks() {
		out = append(out, shadowArguments{c.disk, []string{"one"}, []bool{true}})
	}
	return out
}

func TestShadowArgumentsStay(t *testing.T) {
	for _, a := range memoryArguments(t) {
		for _, f := range shadowCalls() {
			given := roomyArguments(a)
			out := f.call(given)
			given.wantAs(t, f.name, a)
			out.scribble()
			given.wantAs(t, f.name+", scribbled", a)
		}
	}
}

func TestShadowAnswersAreNewMemory(t *testing.T) {
	for _, a := range memoryArguments(t) {
		for _, f := range shadowCalls() {
			given := roomyArguments(a)
			first, second := f.call(given), f.call(given)
			was := first.clone()
			second.scribble()
			if !first.same(was) {
				t.Errorf("%s: two answers share memory", f.name)
			}
			given.scribble()
			if !first.same(was) {
				t.Errorf("%s: the answer changed with the argument", f.name)
			}
		}
	}
}

func TestShadowTextsAreNewMemory(t *testing.T) {
	for _, a := range memoryArguments(t) {
		for _, f := range shadowCalls() {
			given := slices.Concat(textsOf(a.disk), textsOf(impl.Disk{Sectors: a.bodies}))
			for _, answer := range f.call(a).allTexts() {
				for _, text := range given {
					if sharesBytes(answer, text) {
						t.Fatalf("%s: %q shares memory with an argument", f.name, answer)
					}
				}
			}
		}
	}
}

func TestSectorsOfSuperTextStay(t *testing.T) {
	for _, was := range [][]int64{{}, {5, 9}, {9, 5, 2}, {5, 5}, {1}, sectorsFrom(2, 30), sectorsFrom(2, 31)} {
		given := slices.Concat(was, slices.Repeat([]int64{77}, spare))
		impl.SuperText(2, given[:len(was)])
		if !slices.Equal(given, slices.Concat(was, slices.Repeat([]int64{77}, spare))) {
			t.Errorf("the sectors %v became %v", was, given)
		}
	}
}
