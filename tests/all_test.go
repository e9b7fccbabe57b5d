package tests

import (
	"cmp"
	"go/ast"
	"go/parser"
	"go/token"
	"maps"
	"path/filepath"
	"reflect"
	"slices"
	"strings"
	"sync"
	"testing"

	"loop.example/g00140/impl"
)

// TestAllFunctionsAreThere holds the list of the functions against what the package has.
func TestAllFunctionsAreThere(t *testing.T) {
	files, err := filepath.Glob("../impl/*.go")
	if err != nil || len(files) != 15 {
		t.Fatalf("%d files, %v", len(files), err)
	}
	var names []string
	for _, file := range files {
		parsed, err := parser.ParseFile(token.NewFileSet(), file, nil, parser.SkipObjectResolution)
		if err != nil {
			t.Fatal(err)
		}
		for _, d := range parsed.Decls {
			if f, is := d.(*ast.FuncDecl); is && f.Recv == nil && f.Name.IsExported() {
				names = append(names, f.Name.Name)
			}
		}
	}
	slices.Sort(names)
	if want := slices.Sorted(maps.Keys(allFunctions())); !slices.Equal(names, want) {
		t.Errorf("the package has %v, not %v", names, want)
	}
}

// called is a function with arguments that have spare room, and what it answered.
type called struct {
	name    string
	given   []reflect.Value
	was     []reflect.Value
	answers []reflect.Value
}

func call(t *testing.T, name string, f reflect.Value, args []reflect.Value) *called {
	t.Helper()
	defer noPanic(t, name)
	c := &called{name: name, was: args}
	for _, arg := range args {
		c.given = append(c.given, roomy(arg))
	}
	c.answers = f.Call(c.given)
	return c
}

// wantKept fails unless the arguments, and the spare room behind their lists, are as they were.
func (c *called) wantKept(t *testing.T) {
	t.Helper()
	for i, arg := range c.given {
		if !sameValue(arg, c.was[i]) {
			t.Errorf("%s: argument %d was changed", c.name, i)
		}
		if !hasSpare(arg) {
			t.Errorf("%s: there is something behind a list of argument %d", c.name, i)
		}
	}
}

// wantApart fails where a list or a text of the answers lies where another one of these does, or one of the arguments or of the other call's answers.
func (c *called) wantApart(t *testing.T, other *called) {
	t.Helper()
	var own, all []piece
	for _, v := range c.answers {
		own = append(own, memoryOf(v)...)
	}
	for _, v := range slices.Concat(c.given, other.answers) {
		all = append(all, memoryOf(v)...)
	}
	// Arguments may share with each other: they are held against the answers alone.
	slices.SortFunc(own, func(a piece, b piece) int { return cmp.Compare(a.from, b.from) })
	for i := 1; i < len(own); i++ {
		if own[i].from < own[i-1].to {
			t.Errorf("%s: two lists or texts of an answer share memory", c.name)
			return
		}
	}
	for _, p := range all {
		at, _ := slices.BinarySearchFunc(own, p, func(a piece, b piece) int { return cmp.Compare(a.to, b.from+1) })
		if at < len(own) && own[at].from < p.to {
			t.Errorf("%s: an answer shares memory with an argument, or with another answer", c.name)
			return
		}
	}
}

// wantFixed fails where the last answer is false, and another one beside it is not zero.
func (c *called) wantFixed(t *testing.T) bool {
	t.Helper()
	last := len(c.answers) - 1
	if c.answers[last].Kind() != reflect.Bool || c.answers[last].Bool() {
		return true
	}
	for _, v := range c.answers[:last] {
		if !isZeroValue(v) {
			t.Errorf("%s: beside false it answers %v", c.name, v)
		}
	}
	return false
}

func sameAnswers(a []reflect.Value, b []reflect.Value) bool {
	return slices.EqualFunc(a, b, sameValue)
}

// wantPromise16 asks twice, and tells whether the last answer was not false.
func wantPromise16(t *testing.T, name string, f reflect.Value, args []reflect.Value) bool {
	t.Helper()
	first, second := call(t, name, f, args), call(t, name, f, args)
	if first == nil || second == nil {
		return false
	}
	first.wantKept(t)
	first.wantApart(t, second)
	if !sameAnswers(first.answers, second.answers) {
		t.Errorf("%s: asked again it answers another thing", name)
	}
	return first.wantFixed(t)
}

// drawnArguments has one argument that is given, where at is one's place, and others that are drawn.
func drawnArguments(n *numbers, p pools, kind reflect.Type, at int, one reflect.Value) []reflect.Value {
	var args []reflect.Value
	for i := range kind.NumIn() {
		pool := p[kind.In(i)]
		if i == at {
			args = append(args, one)
		} else {
			args = append(args, pool[n.below(len(pool))])
		}
	}
	return args
}

// TestPromise16 calls each function with each argument at each place, the others drawn, and then with all of them drawn.
func TestPromise16(t *testing.T) {
	t.Parallel()
	n := numbers(194)
	p := allArguments(t)
	functions := allFunctions()
	for _, name := range slices.Sorted(maps.Keys(functions)) {
		f := functions[name]
		yes, no := 0, 0
		tell := func(is bool) {
			if is {
				yes++
			} else {
				no++
			}
		}
		for i := range f.Type().NumIn() {
			if len(p[f.Type().In(i)]) < 2 {
				t.Fatalf("%s: there is no argument %d", name, i)
			}
			for _, one := range p[f.Type().In(i)] {
				tell(wantPromise16(t, name, f, drawnArguments(&n, p, f.Type(), i, one)))
			}
		}
		for range 500 {
			tell(wantPromise16(t, name, f, drawnArguments(&n, p, f.Type(), -1, reflect.Value{})))
			if f.Type().NumIn() < 2 {
				break
			}
		}
		last := f.Type().Out(f.Type().NumOut() - 1)
		if last.Kind() == reflect.Bool && (yes < 3 || no < 3) {
			t.Errorf("%s: %d times it is true, %d times false", name, yes, no)
		}
	}
}

// TestPromise16OfRightArguments has arguments that belong together, so that each function comes to its end.
func TestPromise16OfRightArguments(t *testing.T) {
	functions := allFunctions()
	values := func(args ...any) []reflect.Value {
		var out []reflect.Value
		for _, arg := range args {
			out = append(out, reflect.ValueOf(arg))
		}
		return out
	}
	wantRight := func(name string, args ...any) {
		t.Helper()
		if !wantPromise16(t, name, functions[name], values(args...)) {
			t.Errorf("%s: it answers false", name)
		}
	}
	for _, flip := range []bool{false, true} {
		h := midHeap(flip)
		wantRight("New", h, int64(5), int64(7))
		wantRight("AddRoot", h, ref(2000))
		wantRight("SetRoot", h, int64(1), ref(0))
		wantRight("Get", h, ref(0), int64(1))
		wantRight("Set", h, ref(0), int64(1), ref(2005))
		wantRight("Scavenge", h)
		wantRight("Compact", h)
		wantRight("Forward", h, ref(2000), ref(10))
		wantRight("Exchange", h, ref(2000), ref(10))
		wantRight("Build", impl.Shape(h))
		wantRight("SameGraph", impl.Shape(h), impl.Shape(h))
	}
	for _, c := range savedVms(t) {
		bodies := mustFreeze(t, c.vm)
		d := mustSave(t, impl.NewDisk(), c.vm)
		wantRight("Collect", c.vm, true)
		wantRight("Freeze", c.vm)
		wantRight("Save", d, c.vm)
		if impl.Reached(c.vm.Heap) <= 2000 {
			wantRight("Thaw", bodies, c.vm.Program)
			wantRight("Restart", d, c.vm.Program)
		}
		wantRight("Commit", d, bodies[1:])
		wantRight("Put", d, int64(63), "late")
		wantRight("SaveCut", d, c.vm, int64(2), []bool{true}, int64(0))
		wantRight("Cut", d, bodies[1:], int64(2), []bool{true}, int64(0))
	}
	wantRight("PackPage", int64(3), int64(4), "body")
	wantRight("SuperText", int64(3), []int64{4, 5})
	wantRight("ReadCode", "push 5")
	wantRight("ReadCode", "halt")
	wantRight("NewVm", program("push 5", "halt"))
}

// TestArgumentsThatShare has lists of which one is a piece of the other one: nothing of that may be in an answer.
func TestArgumentsThatShare(t *testing.T) {
	functions := allFunctions()
	text := strings.Repeat("push 1\nprint\n", 10) + ".boot\n.run 20\n.out\n.save\n.restart\n"
	bodies := []string{text[:13], text[13:26], text[:13]}
	sectors := impl.NewDisk()
	sectors.Sectors[5], sectors.Sectors[6] = text[:20], text[10:30]
	sectors.Late = []impl.Write{{Sector: 5, Text: text[:20]}, {Sector: 6, Text: text[:20]}}
	graph := sharedGraph()
	for name, args := range map[string][]any{
		"Bench": {text}, "Put": {sectors, int64(6), text[5:15]}, "Hold": {sectors}, "See": {sectors, int64(6)}, "Crash": {sectors, []bool{true}, int64(1)}, "Commit": {sectors, bodies}, "Script": {sectors, bodies},
		"Cut": {sectors, bodies, int64(4), []bool{true}, int64(-1)}, "Build": {graph}, "GraphOk": {graph}, "SameGraph": {graph, graph}, "ReadProgram": {text[:130]}, "ReadCode": {text[:6]}, "Thaw": {bodies, program("dup")},
	} {
		var given []reflect.Value
		for _, arg := range args {
			given = append(given, reflect.ValueOf(arg))
		}
		first, second := functions[name].Call(given), functions[name].Call(given)
		if !sameAnswers(first, second) {
			t.Errorf("%s: asked again it answers another thing", name)
		}
		c, other := &called{name: name, given: given, answers: first}, &called{answers: second}
		c.wantApart(t, other)
	}
}

// TestAllFunctionsAskedByManyAtOnce has the same arguments for all who ask.
func TestAllFunctionsAskedByManyAtOnce(t *testing.T) {
	n := numbers(195)
	p := allArguments(t)
	functions := allFunctions()
	type question struct {
		name string
		args []reflect.Value
		want []reflect.Value
	}
	var all []question
	for _, name := range slices.Sorted(maps.Keys(functions)) {
		for range 12 {
			args := drawnArguments(&n, p, functions[name].Type(), -1, reflect.Value{})
			all = append(all, question{name, args, functions[name].Call(args)})
		}
	}
	var group sync.WaitGroup
	for k := range 6 {
		group.Go(func() {
			for i := range all {
				q := all[(i+k*50)%len(all)]
				if !sameAnswers(functions[q.name].Call(q.args), q.want) {
					t.Errorf("%s: it is another one", q.name)
				}
			}
		})
	}
	group.Wait()
}
