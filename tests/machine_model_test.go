package tests

import (
	"slices"

	"loop.example/g00140/impl"
)

// modelVmOk says one by one what a right machine must have.
func modelVmOk(v impl.Vm) bool {
	if _, is := modelObjects(v.Heap); !is || len(v.Heap.Roots) != 2 || v.Heap.Roots[0]%2 == 0 || v.Heap.Roots[1]%2 == 0 {
		return false
	}
	stack, globals := v.Heap.Words[(v.Heap.Roots[0]-1)/2:], v.Heap.Words[(v.Heap.Roots[1]-1)/2:]
	if stack[0] != 40 || stack[1] != 1 || globals[0] != 10 || globals[1] != 2 {
		return false
	}
	if stack[4]%2 != 0 || !between(0, stack[4], 78) {
		return false
	}
	for i := stack[4]/2 + 1; i < 40; i++ {
		if stack[4+i] != 0 {
			return false
		}
	}
	for _, c := range v.Program {
		if _, is := modelShow(c); !is {
			return false
		}
	}
	for _, n := range v.Out {
		if !between(-1000000000, n, 1000000000) {
			return false
		}
	}
	return len(v.Program) <= 100 && between(0, v.Pc, int64(len(v.Program))) && len(v.Out) <= 300 && between(0, v.State, 3)
}

// modelMachine says Tick again: a Code is tried on a copy whose stack is a list, and the copy is given up where it is stuck or full.
type modelMachine struct {
	v     impl.Vm
	words []int64
	stuck bool
	full  bool
}

func modelTick(v impl.Vm) impl.Vm {
	if !modelVmOk(v) {
		return impl.Vm{}
	}
	return modelStep(v)
}

// modelStep is modelTick of a machine that is right.
func modelStep(v impl.Vm) impl.Vm {
	if v.State != 0 {
		return cloneVm(v)
	}
	if v.Pc == int64(len(v.Program)) {
		return withState(v, 1)
	}
	m := &modelMachine{v: cloneVm(v)}
	m.take()
	c := v.Program[v.Pc]
	m.v.Pc++
	m.try(c.Op, c.N)
	switch {
	case m.stuck:
		return withState(v, 2)
	case m.full:
		return withState(v, 3)
	}
	m.give()
	return m.v
}

// take reads the stack from the heap, give writes it there.
func (m *modelMachine) take() {
	at := (m.v.Heap.Roots[0]-1)/2 + 4
	m.words = slices.Clone(m.v.Heap.Words[at+1 : at+1+m.v.Heap.Words[at]/2])
}

func (m *modelMachine) give() { m.v = withStack(m.v, m.words...) }

func (m *modelMachine) push(w int64) {
	m.words = append(m.words, w)
	m.stuck = m.stuck || len(m.words) > 39
}

func (m *modelMachine) pop() int64 {
	if len(m.words) == 0 {
		m.stuck = true
		return 0
	}
	last := len(m.words) - 1
	w := m.words[last]
	m.words = m.words[:last]
	return w
}

func (m *modelMachine) popNumber() int64 {
	w := m.pop()
	m.stuck = m.stuck || w%2 != 0
	return w / 2
}

// popObject is the address of the one that is popped; any one where it is stuck.
func (m *modelMachine) popObject() int64 {
	w := m.pop()
	if w%2 == 0 || m.v.Heap.Words[(w-1)/2+1] != 3 {
		m.stuck = true
		return 0
	}
	return (w - 1) / 2
}

func (m *modelMachine) pushNumber(n int64) {
	m.stuck = m.stuck || !between(-1000000000, n, 1000000000)
	m.push(2 * n)
}

func (m *modelMachine) goTo(pc int64) {
	m.stuck = m.stuck || !between(0, pc, int64(len(m.v.Program)))
	m.v.Pc = pc
}

func (m *modelMachine) try(op int64, n int64) {
	globals := m.v.Heap.Words[(m.v.Heap.Roots[1]-1)/2+4:]
	switch op {
	case 1:
		m.pushNumber(n)
	case 2:
		m.push(globals[n])
	case 3:
		globals[n] = m.pop()
	case 4:
		m.tryNew(n)
	case 5, 6, 15, 18:
		m.tryObject(op, n)
	case 7, 8, 9:
		m.tryCount(op)
	case 10, 11, 19, 20:
		m.tryGo(op, n)
	case 12:
		w := m.pop()
		m.push(w)
		m.push(w)
	case 13:
		m.pop()
	case 14:
		m.v.Out = append(m.v.Out, m.popNumber())
		m.full = len(m.v.Out) > 300
	case 16:
		m.v.State = 1
	case 17:
		b, a := m.pop(), m.pop()
		m.push(b)
		m.push(a)
	}
}

func (m *modelMachine) tryCount(op int64) {
	b := m.popNumber()
	a := m.popNumber()
	switch {
	case op == 7:
		m.pushNumber(a + b)
	case op == 8:
		m.pushNumber(a - b)
	case a < b:
		m.pushNumber(1)
	default:
		m.pushNumber(0)
	}
}

func (m *modelMachine) tryGo(op int64, n int64) {
	behind := m.v.Pc
	switch op {
	case 10:
		m.goTo(n)
	case 11:
		m.goTo(n)
		if m.pop() != 0 {
			m.v.Pc = behind
		}
	case 19:
		m.push(2 * behind)
		m.goTo(n)
	case 20:
		m.goTo(m.popNumber())
	}
}

func (m *modelMachine) tryObject(op int64, n int64) {
	words := m.v.Heap.Words
	switch op {
	case 5:
		at := m.popObject()
		if n >= words[at] {
			m.stuck = true
			return
		}
		m.push(words[at+4+n])
	case 6:
		w := m.pop()
		at := m.popObject()
		if m.stuck || n >= words[at] {
			m.stuck = true
			return
		}
		words[at+4+n] = w
	case 15:
		m.pushNumber(words[m.popObject()+2])
	case 18:
		b := m.popObject()
		a := m.popObject()
		if !m.stuck {
			m.give()
			m.v.Heap = modelChanged(m.v.Heap, map[int64]int64{ref(a): ref(b), ref(b): ref(a)})
			m.take()
		}
	}
}

func (m *modelMachine) tryNew(size int64) {
	h := m.v.Heap
	if h.Eden+4+size > 2600 {
		if then := modelScavenge(h); then.is {
			h = then.heap
		} else {
			h = modelCompact(h).heap
		}
	}
	made, w, is := modelNew(h, 3, size)
	if is {
		m.v.Heap = made
		m.take()
	}
	m.full = !is
	m.push(w)
}

// dream is a machine without a heap, and so without a collector: its objects are there for ever.
type dream struct {
	codes   []impl.Code
	pc      int64
	out     []int64
	state   int64
	hash    int64
	stack   []dreamWord
	globals []dreamWord
}

// dreamWord is a number, or an object.
type dreamWord struct {
	n  int64
	of *dreamObject
}

type dreamObject struct {
	class  int64
	hash   int64
	fields []dreamWord
}

func newDream(codes []impl.Code) *dream {
	return &dream{codes: codes, hash: 3, globals: make([]dreamWord, 10)}
}

// tick is told by how many words a Code pops, and pushes.
func (d *dream) tick() {
	if d.state != 0 {
		return
	}
	if d.pc == int64(len(d.codes)) {
		d.state = 1
		return
	}
	c := d.codes[d.pc]
	pops := map[int64]int{3: 1, 5: 1, 6: 2, 7: 2, 8: 2, 9: 2, 11: 1, 12: 1, 13: 1, 14: 1, 15: 1, 17: 2, 18: 2, 20: 1}[c.Op]
	left := len(d.stack) - pops
	if left < 0 {
		d.state = 2
		return
	}
	pushes, next, state := d.does(c, d.stack[left:])
	switch {
	case state == 2 || left+len(pushes) > 39:
		d.state = 2
	case state == 3:
		d.state = 3
	default:
		d.stack = slices.Concat(d.stack[:left], pushes)
		d.pc, d.state = next, state
	}
}

func dreamNumber(n int64) []dreamWord { return []dreamWord{{n: n}} }

// does answers what is pushed, Pc and the State then.
func (d *dream) does(c impl.Code, popped []dreamWord) ([]dreamWord, int64, int64) {
	next := d.pc + 1
	switch c.Op {
	case 1:
		return dreamNumber(c.N), next, 0
	case 2:
		return []dreamWord{d.globals[c.N]}, next, 0
	case 3:
		d.globals[c.N] = popped[0]
	case 4:
		if len(d.stack) == 39 {
			return nil, 0, 2
		}
		made := &dreamObject{class: 3, hash: d.hash, fields: make([]dreamWord, c.N)}
		d.hash++
		return []dreamWord{{of: made}}, next, 0
	case 5, 6, 15, 18:
		return d.doesObject(c, popped)
	case 7, 8, 9, 14:
		return d.doesNumber(c, popped)
	case 10, 11, 19, 20:
		return d.goes(c, popped)
	case 12:
		return []dreamWord{popped[0], popped[0]}, next, 0
	case 16:
		return nil, next, 1
	case 17:
		return []dreamWord{popped[1], popped[0]}, next, 0
	}
	return nil, next, 0
}

func (d *dream) doesObject(c impl.Code, popped []dreamWord) ([]dreamWord, int64, int64) {
	x, last := popped[0].of, popped[len(popped)-1]
	switch {
	case x == nil || c.Op == 18 && last.of == nil:
		return nil, 0, 2
	case c.Op == 15:
		return dreamNumber(x.hash), d.pc + 1, 0
	case c.Op == 18:
		*x, *last.of = *last.of, *x
		return nil, d.pc + 1, 0
	case c.N >= int64(len(x.fields)):
		return nil, 0, 2
	case c.Op == 5:
		return []dreamWord{x.fields[c.N]}, d.pc + 1, 0
	}
	x.fields[c.N] = last
	return nil, d.pc + 1, 0
}

func (d *dream) doesNumber(c impl.Code, popped []dreamWord) ([]dreamWord, int64, int64) {
	a, b := popped[0], popped[len(popped)-1]
	n := map[int64]int64{7: a.n + b.n, 8: a.n - b.n}[c.Op]
	if c.Op == 9 && a.n < b.n {
		n = 1
	}
	if a.of != nil || b.of != nil || n > 1000000000 || n < -1000000000 {
		return nil, 0, 2
	}
	if c.Op != 14 {
		return dreamNumber(n), d.pc + 1, 0
	}
	if len(d.out) == 300 {
		return nil, 0, 3
	}
	d.out = append(d.out, a.n)
	return nil, d.pc + 1, 0
}

func (d *dream) goes(c impl.Code, popped []dreamWord) ([]dreamWord, int64, int64) {
	to := c.N
	if c.Op == 20 {
		to = popped[0].n
	}
	if to < 0 || to > int64(len(d.codes)) || c.Op == 20 && popped[0].of != nil {
		return nil, 0, 2
	}
	if c.Op == 11 && popped[0] != (dreamWord{}) {
		to = d.pc + 1
	}
	if c.Op == 19 {
		return dreamNumber(d.pc + 1), to, 0
	}
	return nil, to, 0
}

// graph is what the Shape of such a machine's heap should be.
func (d *dream) graph() impl.Graph {
	stack := make([]dreamWord, 40)
	stack[0].n = int64(len(d.stack))
	copy(stack[1:], d.stack)
	come := []*dreamObject{{1, 1, stack}, {2, 2, d.globals}}
	numbers := map[*dreamObject]int64{}
	g := impl.Graph{Roots: []int64{1, 3}, Hash: d.hash}
	for i := 0; i < len(come); i++ {
		var fields []int64
		for _, w := range come[i].fields {
			if w.of == nil {
				fields = append(fields, 2*w.n)
				continue
			}
			if _, had := numbers[w.of]; !had {
				numbers[w.of] = int64(len(come))
				come = append(come, w.of)
			}
			fields = append(fields, 2*numbers[w.of]+1)
		}
		g.Nodes = append(g.Nodes, aNode(come[i].class, come[i].hash, fields...))
	}
	return g
}
