package tests

import (
	"slices"

	"loop.example/sedge/impl"
)

// runJudge is a second reading of chapter 5. It makes of a tree one list of small deeds with jumps among them, and
// does these one by one, with a pile of numbers; what a name holds stands in a map.
type runJudge struct {
	nodes  []impl.Node
	table  impl.Table
	fn     impl.Func
	deeds  []deed
	starts map[string]int
}

// deed is something that is done in a run.
type deed func(s *judgedRun)

// judgedRef is a reference that is not null.
type judgedRef struct {
	array string
	place int
}

// judgedCall is a function that runs: its numbers, and those of its references that are not null; the deed with
// which its caller goes on, and the name that is set then.
type judgedCall struct {
	numbers map[string]int
	refs    map[string]judgedRef
	back    int
	into    string
}

// judgedRun is how a run stands; it goes on as long as its Kind is 0.
type judgedRun struct {
	impl.Outcome
	most   int
	next   int
	inputs []int
	pile   []int
	calls  []*judgedCall
	shared map[string]int
	cells  map[judgedRef]int
	sizes  map[string]int
}

// judgeRun is what TreeRun must tell.
func judgeRun(text string, inputs []int, steps int) impl.Outcome {
	table, fault := judgeNames(text)
	if fault != (impl.Fault{}) || len(inputs) > 100 {
		return impl.Outcome{}
	}
	nodes, _ := impl.ParseTree(text)
	j := &runJudge{nodes: nodes, table: table, starts: map[string]int{}}
	for _, f := range table.Funcs {
		j.fn, j.starts[f.Name] = f, len(j.deeds)
		j.block(nodes[f.Body])
		j.push(0)
		j.add(leave)
	}
	s := &judgedRun{most: steps, next: j.starts["main"], inputs: inputs, shared: map[string]int{}, cells: map[judgedRef]int{}, sizes: map[string]int{}}
	if steps > 5000 {
		s.most = 5000
	}
	for _, name := range table.Globals {
		s.shared[name] = 0
	}
	for _, array := range table.Arrays {
		s.sizes[array.Name] = array.Size
	}
	s.calls = []*judgedCall{j.callOf("main")}
	for s.Kind == 0 {
		s.next++
		j.deeds[s.next-1](s)
	}
	return s.Outcome
}

// callOf is a function that begins, all its ints 0.
func (j *runJudge) callOf(name string) *judgedCall {
	c := &judgedCall{numbers: map[string]int{}, refs: map[string]judgedRef{}}
	for _, f := range j.table.Funcs {
		if f.Name == name {
			for _, own := range f.Ints {
				c.numbers[own] = 0
			}
		}
	}
	return c
}

func (s *judgedRun) call() *judgedCall {
	return s.calls[len(s.calls)-1]
}

func (s *judgedRun) pop() int {
	v := s.pile[len(s.pile)-1]
	s.pile = s.pile[:len(s.pile)-1]
	return v
}

func (s *judgedRun) fail(fault int, node impl.Node) {
	s.Kind, s.Fault, s.At = impl.RnFault, fault, node.At
}

// numbers is the map in which a number stands.
func (s *judgedRun) numbers(name string) map[string]int {
	if _, own := s.call().numbers[name]; own {
		return s.call().numbers
	}
	return s.shared
}

func (s *judgedRun) isCell(at judgedRef) bool {
	return at.place >= 0 && at.place < s.sizes[at.array]
}

func (s *judgedRun) isPlace(at judgedRef) bool {
	return s.isCell(at) || at.place == s.sizes[at.array]
}

// leave leaves a function with the number on the pile.
func leave(s *judgedRun) {
	left := s.call()
	s.calls = s.calls[:len(s.calls)-1]
	if len(s.calls) == 0 {
		s.Kind = impl.RnDone
		return
	}
	s.next = left.back
	s.numbers(left.into)[left.into] = s.pop()
}

func takeStep(s *judgedRun) {
	if s.Steps >= s.most {
		s.Kind = impl.RnMore
		return
	}
	s.Steps++
}

func (j *runJudge) add(list ...deed) {
	j.deeds = append(j.deeds, list...)
}

func (j *runJudge) push(v int) {
	j.add(func(s *judgedRun) { s.pile = append(s.pile, v) })
}

// jump is a deed that goes on elsewhere when what is on the pile is such; where, is told later.
func (j *runJudge) jump(when func(s *judgedRun) bool) (land func()) {
	to := new(int)
	j.add(func(s *judgedRun) {
		if when(s) {
			s.next = *to
		}
	})
	return func() { *to = len(j.deeds) }
}

func ifFalse(s *judgedRun) bool { return s.pop() == 0 }

func always(*judgedRun) bool { return true }

// back goes on at a deed that is there already.
func (j *runJudge) back(to int) {
	j.add(func(s *judgedRun) { s.next = to })
}

func (j *runJudge) kid(node impl.Node, place int) impl.Node {
	return j.nodes[node.Kids[place]]
}

func (j *runJudge) block(node impl.Node) {
	for i := range node.Kids {
		j.add(takeStep)
		j.statement(j.kid(node, i))
	}
}

func (j *runJudge) statement(node impl.Node) {
	switch node.Kind {
	case impl.NdSet:
		j.set(node)
	case impl.NdRead:
		j.add(func(s *judgedRun) {
			if len(s.inputs) == 0 {
				s.Kind = impl.RnDone
				return
			}
			s.numbers(node.Name)[node.Name] = int(int32(uint32(uint64(s.inputs[0]))))
			s.inputs = s.inputs[1:]
		})
	case impl.NdStop:
		j.add(func(s *judgedRun) { s.Kind = impl.RnDone })
	case impl.NdStore, impl.NdPut, impl.NdAddr, impl.NdMove:
		j.place(node)
	case impl.NdIf, impl.NdWhile, impl.NdFor:
		j.withBlocks(node)
	case impl.NdPrint:
		j.term(j.kid(node, 0))
		j.add(func(s *judgedRun) { s.Output = append(s.Output, s.pop()) })
	case impl.NdAssert:
		j.condition(j.kid(node, 0))
		j.add(func(s *judgedRun) {
			if s.pop() == 0 {
				s.fail(impl.FaAssert, node)
			}
		})
	case impl.NdReturn:
		j.term(j.kid(node, 0))
		j.add(leave)
	case impl.NdCall:
		j.calling(node)
	}
}

func (j *runJudge) setNumber(name string) {
	j.add(func(s *judgedRun) { s.numbers(name)[name] = s.pop() })
}

func (j *runJudge) set(node impl.Node) {
	from := j.kid(node, 0)
	switch {
	case from.Kind == impl.NdNull:
		j.add(func(s *judgedRun) { delete(s.call().refs, node.Name) })
	case slices.Contains(j.fn.Refs, node.Name):
		j.add(func(s *judgedRun) {
			if at, ok := s.call().refs[from.Name]; ok {
				s.call().refs[node.Name] = at
				return
			}
			delete(s.call().refs, node.Name)
		})
	default:
		j.term(from)
		j.setNumber(node.Name)
	}
}

// place is a statement that has to do with a place of an array.
func (j *runJudge) place(node impl.Node) {
	for i := range node.Kids {
		if j.kid(node, i).Kind != impl.NdUse {
			j.term(j.kid(node, i))
		}
	}
	j.add(func(s *judgedRun) {
		v := s.pop()
		at, known := s.call().refs[node.Name]
		to := judgedRef{at.array, at.place + v}
		switch node.Kind {
		case impl.NdStore:
			at, known = judgedRef{node.Name, s.pop()}, true
		case impl.NdAddr:
			to, known = judgedRef{j.kid(node, 0).Name, v}, true
		}
		store := node.Kind == impl.NdStore || node.Kind == impl.NdPut
		switch {
		case !known:
			s.fail(impl.FaNull, node)
		case store && !s.isCell(at) || !store && !s.isPlace(to):
			s.fail(impl.FaBounds, node)
		case store:
			s.cells[at] = v
		default:
			s.call().refs[node.Name] = to
		}
	})
}

func (j *runJudge) withBlocks(node impl.Node) {
	if node.Kind == impl.NdFor {
		j.term(j.kid(node, 0))
		j.setNumber(node.Name)
	}
	test := len(j.deeds)
	if node.Kind != impl.NdIf {
		j.add(takeStep)
	}
	if node.Kind == impl.NdFor {
		j.add(func(s *judgedRun) { s.pile = append(s.pile, s.numbers(node.Name)[node.Name]) })
		j.term(j.kid(node, 1))
		j.add(func(s *judgedRun) { bound := s.pop(); s.pile = append(s.pile, truth(s.pop() < bound)) })
	} else {
		j.condition(j.kid(node, 0))
	}
	out := j.jump(ifFalse)
	switch node.Kind {
	case impl.NdIf:
		j.block(j.kid(node, 1))
		end := j.jump(always)
		out()
		if len(node.Kids) == 3 {
			j.block(j.kid(node, 2))
		}
		end()
	case impl.NdWhile:
		j.block(j.kid(node, 1))
		j.back(test)
		out()
	case impl.NdFor:
		j.block(j.kid(node, 2))
		j.add(func(s *judgedRun) { s.numbers(node.Name)[node.Name]++ })
		j.back(test)
		out()
	}
}

func (j *runJudge) calling(node impl.Node) {
	name := j.kid(node, 0).Name
	for i := range node.Kids[1:] {
		j.term(j.kid(node, i+1))
	}
	j.add(func(s *judgedRun) {
		if len(s.calls) >= 12 {
			s.fail(impl.FaDepth, node)
			return
		}
		c := j.callOf(name)
		at := slices.IndexFunc(j.table.Funcs, func(f impl.Func) bool { return f.Name == name })
		for i := len(node.Kids) - 2; i >= 0; i-- {
			c.numbers[j.table.Funcs[at].Ints[i]] = s.pop()
		}
		c.back, c.into = s.next, node.Name
		s.calls = append(s.calls, c)
		s.next = j.starts[name]
	})
}

func (j *runJudge) term(node impl.Node) {
	for i := range node.Kids {
		j.term(j.kid(node, i))
	}
	switch node.Kind {
	case impl.NdNum:
		j.push(node.Num)
	case impl.NdVar:
		j.add(func(s *judgedRun) { s.pile = append(s.pile, s.numbers(node.Name)[node.Name]) })
	case impl.NdElem, impl.NdDeref:
		j.add(func(s *judgedRun) {
			at, known := s.call().refs[node.Name]
			if node.Kind == impl.NdElem {
				at, known = judgedRef{node.Name, s.pop()}, true
			}
			switch {
			case !known:
				s.fail(impl.FaNull, node)
			case !s.isCell(at):
				s.fail(impl.FaBounds, node)
			}
			s.pile = append(s.pile, s.cells[at])
		})
	case impl.NdOp:
		j.add(func(s *judgedRun) {
			b, a := s.pop(), s.pop()
			v, fault := impl.NumDo(node.Num, a, b)
			if fault != 0 {
				s.fail(fault, node)
			}
			s.pile = append(s.pile, v)
		})
	}
}

// truth is what stands on the pile for a condition.
func truth(holds bool) int {
	if holds {
		return 1
	}
	return 0
}

func (j *runJudge) condition(node impl.Node) {
	switch node.Kind {
	case impl.NdCmp:
		j.term(j.kid(node, 0))
		j.term(j.kid(node, 1))
		j.add(func(s *judgedRun) {
			b, a := s.pop(), s.pop()
			s.pile = append(s.pile, truth(impl.NumCmp(node.Num, a, b)))
		})
	case impl.NdIsNull:
		j.add(func(s *judgedRun) {
			_, known := s.call().refs[node.Name]
			s.pile = append(s.pile, truth(!known))
		})
	case impl.NdNot:
		j.condition(j.kid(node, 0))
		j.add(func(s *judgedRun) { s.pile = append(s.pile, 1-s.pop()) })
	case impl.NdAnd, impl.NdOr:
		told := truth(node.Kind == impl.NdOr)
		j.condition(j.kid(node, 0))
		second := j.jump(func(s *judgedRun) bool { return s.pop() != told })
		j.push(told)
		end := j.jump(always)
		second()
		j.condition(j.kid(node, 1))
		end()
	}
}
