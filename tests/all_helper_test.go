package tests

import (
	"math"
	"reflect"
	"slices"
	"strings"
	"testing"
	"unsafe"

	"loop.example/g00140/impl"
)

// allFunctions are the functions of the document by their names.
func allFunctions() map[string]reflect.Value {
	out := map[string]reflect.Value{}
	for name, f := range map[string]any{
		"DiskOk": impl.DiskOk, "NewDisk": impl.NewDisk, "Put": impl.Put, "Hold": impl.Hold, "See": impl.See, "Crash": impl.Crash,
		"Crc": impl.Crc, "PackPage": impl.PackPage, "OpenPage": impl.OpenPage,
		"SuperText": impl.SuperText, "Newest": impl.Newest, "Pages": impl.Pages, "Commit": impl.Commit, "Script": impl.Script, "Cut": impl.Cut,
		"WordOk": impl.WordOk, "Int": impl.Int, "Ref": impl.Ref, "IntOf": impl.IntOf, "RefOf": impl.RefOf,
		"HeapOk": impl.HeapOk, "NewHeap": impl.NewHeap, "Objects": impl.Objects, "Young": impl.Young, "Header": impl.Header,
		"Shape": impl.Shape, "GraphOk": impl.GraphOk, "Build": impl.Build, "Reached": impl.Reached, "SameGraph": impl.SameGraph,
		"New": impl.New, "Room": impl.Room, "AddRoot": impl.AddRoot, "SetRoot": impl.SetRoot,
		"Get": impl.Get, "Set": impl.Set, "ClassOf": impl.ClassOf, "HashOf": impl.HashOf,
		"Scavenge": impl.Scavenge, "Survivors": impl.Survivors, "Promote": impl.Promote,
		"Compact": impl.Compact, "Garbage": impl.Garbage, "Moves": impl.Moves,
		"Forward": impl.Forward, "Exchange": impl.Exchange, "Referrers": impl.Referrers,
		"CodeOk": impl.CodeOk, "ShowCode": impl.ShowCode, "ReadCode": impl.ReadCode, "ReadProgram": impl.ReadProgram,
		"NewVm": impl.NewVm, "VmOk": impl.VmOk, "Tick": impl.Tick, "RunVm": impl.RunVm, "Collect": impl.Collect, "Result": impl.Result,
		"Freeze": impl.Freeze, "Thaw": impl.Thaw, "Save": impl.Save, "SaveCut": impl.SaveCut, "Restart": impl.Restart,
		"Bench": impl.Bench,
	} {
		out[name] = reflect.ValueOf(f)
	}
	return out
}

// pools are arguments of all kinds by their types: right and wrong ones, empty and great ones.
type pools map[reflect.Type][]reflect.Value

func addTo[T any](p pools, values ...T) {
	kind := reflect.TypeFor[T]()
	for _, v := range values {
		p[kind] = append(p[kind], reflect.ValueOf(v))
	}
}

func allArguments(t *testing.T) pools {
	p := pools{}
	addTo(p, true, false)
	addTo(p, farHeapNumbers...)
	addTo[int64](p, 0, 1, 2, 3, 4, 5, 7, 9, 10, 14, 20, 21, 29, 30, 31, 39, 40, 59, 60, 61, 63, 99, 100, 101, 199, 200, 201, 255, 256, 257, 1999, 2000, 2001, 2600, 2900, 3199)
	addTo(p, 3200, 3201, 4001, 5201, 5801, 6399, 6400, 6401, int64(999999998), 999999999, 1000000000, 1000000001, 2000000000, 2000000002, -1000000000, -1000000001, -2000000000, 4294967295)
	addTo(p, nil, []bool{}, allTrue(1), allTrue(40), allTrue(300), allTrue(100000), bitsOf(0, 40), bitsOf(0x2aaaa, 40))
	addTo(p, nil, []int64{}, []int64{2}, []int64{2, 3, 63}, []int64{2, 2}, []int64{1}, []int64{64}, sectorsFrom(2, 30), sectorsFrom(2, 31), sectorsFrom(-5, 100000), farHeapNumbers)
	for _, texts := range [][]string{nil, {}, {""}, {"one"}, {"one", "two", "three"}, {aText('a', 200)}, {aText('a', 201)}, make([]string, 30), make([]string, 31), make([]string, 100000), mustFreeze(t, pagedVm()), mustFreeze(t, mustNewVm(t, nil)), mustFreeze(t, sizedVm(t, 10, 6000))} {
		addTo(p, texts)
	}
	addTexts(p)
	addCodes(p)
	for _, c := range append(memoryDisks(), savedDisks(t)...) {
		addTo(p, c.disk)
	}
	addTo(p, impl.Disk{Sectors: make([]string, 100000)}, impl.Disk{Sectors: make([]string, 64), Late: make([]impl.Write, 100000)})
	for _, c := range memoryHeaps() {
		addTo(p, c.heap)
	}
	// More of what goes with each other, so that it is drawn together now and then.
	for range 30 {
		addTo(p, midHeap(false), midHeap(true))
		addTo(p, ref(0), ref(6), ref(10), ref(2000))
	}
	addTo(p, impl.Heap{}, largeHeap(false), largeHeap(true), impl.Heap{Words: make([]int64, 1000000)}, impl.Heap{Words: slices.Repeat([]int64{math.MaxInt64}, 3200), Old: math.MaxInt64, Eden: math.MinInt64})
	for _, c := range memoryGraphs() {
		addTo(p, c.graph)
	}
	addTo(p, sharedGraph(), impl.Graph{Nodes: make([]impl.Node, 100000), Hash: 5}, impl.Graph{Roots: make([]int64, 100000)})
	for _, c := range append(memoryVms(t), savedVms(t)...) {
		addTo(p, c.vm)
	}
	addTo(p, sizedVm(t, 10, 6001), impl.Vm{Heap: impl.NewHeap()}, impl.Vm{Program: make([]impl.Code, 100000), Out: make([]int64, 100000)})
	return p
}

func addTexts(p pools) {
	n := numbers(192)
	addTo(p, "", "\n", " ", ".", "x", "P", "S", "\x00", "\xff", "\u00e9", aText('a', 128), aText('b', 200), aText('c', 256), aText('d', 257), strings.Repeat("\n", 200), strings.Repeat("\n", 201), strings.Repeat("x", 20000), strings.Repeat("x", 20001), strings.Repeat("dup\n", 250000))
	addTo(p, pageOf(0, 1, "one"), pageOf(29, 999999999, aText('e', 200)), pageOf(30, 1, "x"), rawPage("0", "0", ""), superOf(1, 2, 3), "P0;0;0;", "P;;;")
	addTo(p, "push 1", "push -1000000000", "new 60", "jump 100", "back", "push 1 ", "dup", "dup 0", "load 10", "halt\n", "push 1\nprint\n", "push 1\nprint", "pop\n", strings.Repeat("dup\n", 100), strings.Repeat("dup\n", 101))
	for range 40 {
		addTo(p, drawnBench(&n), shownLines(drawnLoopOf(&n)))
	}
}

func addCodes(p pools) {
	n := numbers(193)
	addTo(p, endCodes()...)
	for op := int64(-2); op < 24; op++ {
		for _, far := range farHeapNumbers {
			addTo(p, impl.Code{Op: op, N: far}, impl.Code{Op: far, N: op})
		}
	}
	for _, count := range []int{0, 1, 50, 100, 101, 1000} {
		addTo(p, drawnProgram(&n, count))
	}
	for range 10 {
		addTo(p, drawnLoopOf(&n), wildProgram(&n))
	}
	addTo(p, nil, make([]impl.Code, 1), make([]impl.Code, 100), make([]impl.Code, 10000), slices.Repeat([]impl.Code{{Op: 12}}, 20000))
}

// marked is what stands in the spare room behind a list.
func marked(kind reflect.Type) reflect.Value {
	v := reflect.New(kind).Elem()
	switch kind.Kind() {
	case reflect.Int64:
		v.SetInt(77)
	case reflect.String:
		v.SetString("spare")
	case reflect.Bool:
		v.SetBool(true)
	case reflect.Struct:
		for i := range kind.NumField() {
			v.Field(i).Set(marked(kind.Field(i).Type))
		}
	}
	return v
}

// roomy is a copy of an argument that has marked spare room behind each list within.
func roomy(v reflect.Value) reflect.Value {
	switch v.Kind() {
	case reflect.Slice:
		out := reflect.MakeSlice(v.Type(), v.Len()+spare, v.Len()+spare)
		reflect.Copy(out, v)
		if hasLists(v.Type().Elem()) {
			for i := range v.Len() {
				out.Index(i).Set(roomy(v.Index(i)))
			}
		}
		mark := marked(v.Type().Elem())
		for i := range spare {
			out.Index(v.Len() + i).Set(mark)
		}
		return out.Slice(0, v.Len())
	case reflect.Struct:
		out := reflect.New(v.Type()).Elem()
		for i := range v.NumField() {
			out.Field(i).Set(roomy(v.Field(i)))
		}
		return out
	}
	return v
}

// hasLists is of kinds of which a copy has a list, or a text, of the other one.
func hasLists(kind reflect.Type) bool {
	if kind.Kind() == reflect.Struct {
		for i := range kind.NumField() {
			if hasLists(kind.Field(i).Type) {
				return true
			}
		}
	}
	return kind.Kind() == reflect.Slice
}

// sameValue takes a nil list for an empty one.
func sameValue(a reflect.Value, b reflect.Value) bool {
	switch a.Kind() {
	case reflect.Slice:
		if a.Len() != b.Len() {
			return false
		}
		if list, is := a.Interface().([]int64); is {
			return slices.Equal(list, b.Interface().([]int64))
		}
		for i := range a.Len() {
			if !sameValue(a.Index(i), b.Index(i)) {
				return false
			}
		}
		return true
	case reflect.Struct:
		for i := range a.NumField() {
			if !sameValue(a.Field(i), b.Field(i)) {
				return false
			}
		}
		return true
	}
	return a.Equal(b)
}

// isZeroValue takes an empty list for nil.
func isZeroValue(v reflect.Value) bool { return sameValue(v, reflect.Zero(v.Type())) }

// hasSpare says whether the spare room behind each list within is still marked.
func hasSpare(v reflect.Value) bool {
	switch v.Kind() {
	case reflect.Slice:
		mark := marked(v.Type().Elem())
		room := v.Slice3(v.Len(), v.Len()+spare, v.Len()+spare)
		for i := range spare {
			if !sameValue(room.Index(i), mark) {
				return false
			}
		}
		if hasLists(v.Type().Elem()) {
			for i := range v.Len() {
				if !hasSpare(v.Index(i)) {
					return false
				}
			}
		}
	case reflect.Struct:
		for i := range v.NumField() {
			if !hasSpare(v.Field(i)) {
				return false
			}
		}
	}
	return true
}

// memoryOf are the lists within, with their spare room, and the texts; those of one byte Go itself keeps for all.
func memoryOf(v reflect.Value) []piece {
	var out []piece
	switch v.Kind() {
	case reflect.String:
		if text := v.String(); len(text) > 1 {
			from := uintptr(unsafe.Pointer(unsafe.StringData(text)))
			out = append(out, piece{from: from, to: from + uintptr(len(text))})
		}
	case reflect.Slice:
		if v.Cap() > 0 && v.Type().Elem().Size() > 0 {
			out = append(out, piece{from: v.Pointer(), to: v.Pointer() + uintptr(v.Cap())*v.Type().Elem().Size()})
		}
		if kind := v.Type().Elem().Kind(); kind == reflect.String || kind == reflect.Struct {
			for i := range v.Len() {
				out = append(out, memoryOf(v.Index(i))...)
			}
		}
	case reflect.Struct:
		for i := range v.NumField() {
			out = append(out, memoryOf(v.Field(i))...)
		}
	}
	return out
}
