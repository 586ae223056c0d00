package tests

import (
	"slices"

	"loop.example/sedge/impl"
)

// walkJudge is a second reading of chapter 7: one edge, gone along in a copy of a state. The copy is dropped when
// something ends the walk, so that nothing of the edge is done then.
type walkJudge struct {
	nodes  []impl.Node
	table  impl.Table
	flow   impl.Flow
	inputs []int
	state  impl.State
	kind   int
	fault  int
	at     int
}

// judgeWalk are the states that WalkState must tell, behind none, one, two .. edges, up to the end, or to so many.
func judgeWalk(text string, inputs []int, most int) []impl.State {
	table, fault := judgeNames(text)
	if fault != (impl.Fault{}) || len(inputs) > 100 {
		return nil
	}
	nodes, _ := impl.ParseTree(text)
	flow, _ := judgeFlow(text)
	s := impl.State{Kind: impl.RnMore, Globals: make([]int, len(table.Globals))}
	for _, array := range table.Arrays {
		s.Arrays = append(s.Arrays, impl.Cells{List: make([]int, array.Size)})
	}
	main := slices.IndexFunc(table.Funcs, func(f impl.Func) bool { return f.Name == "main" })
	s.Frames = []impl.Frame{freshFrame(table, flow, main, -1)}
	list := []impl.State{s}
	for s.Kind == impl.RnMore && len(list) <= most {
		j := &walkJudge{nodes: nodes, table: table, flow: flow, inputs: inputs, state: copyOf(s)}
		j.along()
		if j.kind == 0 {
			s = j.state
		} else {
			s.Kind, s.Fault, s.At = j.kind, j.fault, j.at
		}
		list = append(list, s)
	}
	return list
}

// freshFrame is a function that begins, its parameters being 0 still.
func freshFrame(table impl.Table, flow impl.Flow, fn, call int) impl.Frame {
	f := table.Funcs[fn]
	return impl.Frame{Func: fn, Point: flow.Entry[fn], Call: call, Ints: make([]int, len(f.Ints)), Refs: slices.Repeat([]impl.Ref{{Array: -1}}, len(f.Refs))}
}

// copyOf shares nothing with a state but what was printed, behind which only one copy goes on.
func copyOf(s impl.State) impl.State {
	s.Frames, s.Globals, s.Arrays = slices.Clone(s.Frames), slices.Clone(s.Globals), slices.Clone(s.Arrays)
	for i := range s.Frames {
		s.Frames[i].Ints, s.Frames[i].Refs = slices.Clone(s.Frames[i].Ints), slices.Clone(s.Frames[i].Refs)
	}
	for i := range s.Arrays {
		s.Arrays[i].List = slices.Clone(s.Arrays[i].List)
	}
	return s
}

// ends says how the walk ends, unless something else ended it ahead.
func (j *walkJudge) ends(kind, fault, at int) {
	if j.kind == 0 {
		j.kind, j.fault, j.at = kind, fault, at
	}
}

func (j *walkJudge) fails(fault int, node impl.Node) {
	j.ends(impl.RnFault, fault, node.At)
}

func (j *walkJudge) frame() *impl.Frame {
	return &j.state.Frames[len(j.state.Frames)-1]
}

func (j *walkJudge) fn() impl.Func {
	return j.table.Funcs[j.frame().Func]
}

// number is where a number of the last frame, or a global, stands.
func (j *walkJudge) number(name string) *int {
	if at := slices.Index(j.fn().Ints, name); at >= 0 {
		return &j.frame().Ints[at]
	}
	return &j.state.Globals[slices.Index(j.table.Globals, name)]
}

func (j *walkJudge) isRef(name string) bool {
	return slices.Contains(j.fn().Refs, name)
}

func (j *walkJudge) ref(name string) *impl.Ref {
	return &j.frame().Refs[slices.Index(j.fn().Refs, name)]
}

func (j *walkJudge) array(name string) int {
	return slices.IndexFunc(j.table.Arrays, func(a impl.Array) bool { return a.Name == name })
}

// cell is where a cell stands, or a cell of none behind a fault.
func (j *walkJudge) cell(node impl.Node, at impl.Ref) *int {
	switch {
	case at.Array < 0:
		j.fails(impl.FaNull, node)
	case at.Place < 0 || at.Place >= j.table.Arrays[at.Array].Size:
		j.fails(impl.FaBounds, node)
	default:
		return &j.state.Arrays[at.Array].List[at.Place]
	}
	return new(int)
}

// turn makes a reference stand for a place.
func (j *walkJudge) turn(node impl.Node, to impl.Ref) {
	switch {
	case to.Array < 0:
		j.fails(impl.FaNull, node)
	case to.Place < 0 || to.Place > j.table.Arrays[to.Array].Size:
		j.fails(impl.FaBounds, node)
	default:
		*j.ref(node.Name) = to
	}
}

func (j *walkJudge) term(place int) int {
	node := j.nodes[place]
	var kids []int
	for _, kid := range node.Kids {
		kids = append(kids, j.term(kid))
	}
	switch node.Kind {
	case impl.NdVar:
		return *j.number(node.Name)
	case impl.NdElem:
		return *j.cell(node, impl.Ref{Array: j.array(node.Name), Place: kids[0]})
	case impl.NdDeref:
		return *j.cell(node, *j.ref(node.Name))
	case impl.NdOp:
		v, fault := impl.NumDo(node.Num, kids[0], kids[1])
		if fault != 0 {
			j.fails(fault, node)
		}
		return v
	}
	return node.Num
}

// along goes along an edge that leaves the point of the last frame.
func (j *walkJudge) along() {
	var out []int
	for place, edge := range j.flow.Edges {
		if edge.From == j.frame().Point {
			out = append(out, place)
		}
	}
	edge := j.flow.Edges[out[0]]
	node := impl.Node{}
	if edge.Node >= 0 {
		node = j.nodes[edge.Node]
	}
	switch edgeKinds()[edge.Kind] {
	case "skip":
	case "do":
		j.statement(node)
	case "guard", "test":
		if !j.holds(node) {
			edge = j.flow.Edges[out[1]]
		}
	case "init":
		*j.number(node.Name) = j.term(node.Kids[0])
	case "next":
		*j.number(node.Name)++
	case "fail":
		j.fails(impl.FaAssert, node)
	case "stop":
		j.ends(impl.RnDone, 0, 0)
	case "return":
		j.leaves(edge, node)
		return
	case "call":
		j.frame().Point = edge.To
		j.calls(node, out[0])
		return
	}
	j.frame().Point = edge.To
}

func (j *walkJudge) holds(node impl.Node) bool {
	switch node.Kind {
	case impl.NdIsNull:
		return j.ref(node.Name).Array < 0
	case impl.NdFor:
		return *j.number(node.Name) < j.term(node.Kids[1])
	}
	a := j.term(node.Kids[0])
	return impl.NumCmp(node.Num, a, j.term(node.Kids[1]))
}

func (j *walkJudge) statement(node impl.Node) {
	switch node.Kind {
	case impl.NdSet:
		switch {
		case j.nodes[node.Kids[0]].Kind == impl.NdNull:
			*j.ref(node.Name) = impl.Ref{Array: -1}
		case j.isRef(node.Name):
			*j.ref(node.Name) = *j.ref(j.nodes[node.Kids[0]].Name)
		default:
			*j.number(node.Name) = j.term(node.Kids[0])
		}
	case impl.NdStore:
		at := impl.Ref{Array: j.array(node.Name), Place: j.term(node.Kids[0])}
		v := j.term(node.Kids[1])
		*j.cell(node, at) = v
	case impl.NdPut:
		v := j.term(node.Kids[0])
		*j.cell(node, *j.ref(node.Name)) = v
	case impl.NdAddr:
		j.turn(node, impl.Ref{Array: j.array(j.nodes[node.Kids[0]].Name), Place: j.term(node.Kids[1])})
	case impl.NdMove:
		to := *j.ref(node.Name)
		to.Place += j.term(node.Kids[0])
		j.turn(node, to)
	case impl.NdPrint:
		// What is printed stands behind what all copies share, so that nothing is put there in vain.
		if v := j.term(node.Kids[0]); j.kind == 0 {
			j.state.Output = append(j.state.Output, v)
		}
	case impl.NdRead:
		if j.state.Used == len(j.inputs) {
			j.ends(impl.RnDone, 0, 0)
			return
		}
		*j.number(node.Name) = int(int32(uint32(uint64(j.inputs[j.state.Used]))))
		j.state.Used++
	}
}

func (j *walkJudge) calls(node impl.Node, place int) {
	called := freshFrame(j.table, j.flow, j.flow.Edges[place].Arg, place)
	for i, term := range node.Kids[1:] {
		called.Ints[i] = j.term(term)
	}
	if len(j.state.Frames) >= 12 {
		j.fails(impl.FaDepth, node)
	}
	j.state.Frames = append(j.state.Frames, called)
}

func (j *walkJudge) leaves(edge impl.Edge, node impl.Node) {
	left := 0
	if edge.Node >= 0 {
		left = j.term(node.Kids[0])
	}
	call := j.frame().Call
	if len(j.state.Frames) == 1 {
		j.ends(impl.RnDone, 0, 0)
		return
	}
	j.state.Frames = j.state.Frames[:len(j.state.Frames)-1]
	*j.number(j.nodes[j.flow.Edges[call].Node].Name) = left
}
