package tests

import (
	"runtime"
	"slices"
	"strings"
	"sync"
	"testing"
	"time"

	"loop.example/sedge/impl"
)

// checkPromise19: where one of the run of the tree and the walk ends, the other one ends likewise, unless it is out of
// steps; and what one of them printed begins what the other one did.
func checkPromise19(t *testing.T, text string, inputs []int) {
	t.Helper()
	tree, walk := impl.TreeRun(text, inputs, impl.RunMaxSteps), impl.WalkRun(text, inputs)
	fail := func() {
		t.Errorf("%.600q with %v: the run of the tree is %v, the walk is %v", text, inputs, tree, walk)
	}
	if walk.Steps > impl.WalkMaxSteps || walk.Kind == impl.RnMore && walk.Steps != impl.WalkMaxSteps {
		fail()
	}
	if !beginsWith(tree.Output, walk.Output) && !beginsWith(walk.Output, tree.Output) {
		fail()
	}
	switch {
	case tree.Kind == impl.RnMore && len(tree.Output) > len(walk.Output) && walk.Kind != impl.RnMore:
		fail()
	case walk.Kind == impl.RnMore && len(walk.Output) > len(tree.Output) && tree.Kind != impl.RnMore:
		fail()
	case tree.Kind != impl.RnMore && walk.Kind != impl.RnMore:
		walk.Steps = tree.Steps
		if !sameOutcome(tree, walk) {
			fail()
		}
	}
}

// checkPromise20: from state to state what was printed stays, and a walk that has ended stays as it is; every number
// is one of 32 bits, every reference stands for a place.
func checkPromise20(t *testing.T, text string, inputs []int, states []impl.State) {
	t.Helper()
	table, _ := impl.NameTable(text)
	for steps, s := range states {
		if !stateOk(table, inputs, s) {
			t.Errorf("%.600q with %v: the state behind %d edges is %v", text, inputs, steps, s)
		}
		if steps == 0 {
			continue
		}
		ahead := states[steps-1]
		if !beginsWith(s.Output, ahead.Output) || s.Used < ahead.Used || ahead.Kind != impl.RnMore && !sameState(s, ahead) {
			t.Errorf("%.600q with %v: behind %d edges comes %v, and then %v", text, inputs, steps-1, ahead, s)
		}
	}
}

// stateOk says whether a state has all that the table says, and each of it is what it may be.
func stateOk(table impl.Table, inputs []int, s impl.State) bool {
	ok := s.Kind >= impl.RnMore && s.Kind <= impl.RnFault && (s.Fault != 0) == (s.Kind == impl.RnFault) && s.Used >= 0 && s.Used <= len(inputs)
	ok = ok && len(s.Globals) == len(table.Globals) && len(s.Arrays) == len(table.Arrays) && len(s.Frames) >= 1 && len(s.Frames) <= impl.RunMaxDepth
	numbers := slices.Concat(s.Globals, s.Output)
	for i, cells := range s.Arrays {
		ok = ok && len(cells.List) == table.Arrays[i].Size
		numbers = append(numbers, cells.List...)
	}
	for _, f := range s.Frames {
		ok = ok && len(f.Ints) == len(table.Funcs[f.Func].Ints) && len(f.Refs) == len(table.Funcs[f.Func].Refs)
		numbers = append(numbers, f.Ints...)
		for _, r := range f.Refs {
			null := r == impl.Ref{Array: -1}
			ok = ok && (null || r.Array >= 0 && r.Array < len(table.Arrays) && r.Place >= 0 && r.Place <= table.Arrays[r.Array].Size)
		}
	}
	return ok && !slices.ContainsFunc(numbers, func(v int) bool { return !impl.NumOk(v) })
}

// checkPromise21: from state to state one frame comes, or goes, or none does; those below the last one stay, but that
// the caller goes on with what was left.
func checkPromise21(t *testing.T, text string, inputs []int, states []impl.State) {
	t.Helper()
	flow, _ := impl.FlowOf(text)
	nodes, _ := impl.ParseTree(text)
	table, _ := impl.NameTable(text)
	for steps, s := range states {
		if !framesOk(flow, s.Frames) {
			t.Errorf("%.600q with %v: the frames behind %d edges are %v", text, inputs, steps, s.Frames)
		}
		if steps == 0 {
			continue
		}
		ahead := states[steps-1]
		ok := false
		switch len(s.Frames) - len(ahead.Frames) {
		case 0:
			ok = staysOk(ahead, s)
		case 1:
			ok = opensOk(flow, nodes, table, ahead, s)
		case -1:
			ok = leavesOk(flow, nodes, table, ahead, s)
		}
		if !ok {
			t.Errorf("%.600q with %v: behind %d edges comes\n%v\nand then\n%v", text, inputs, steps-1, ahead, s)
		}
	}
}

// framesOk: each frame stands in its own function; the first one was called by none, each other one by the edge behind
// which the one below it goes on.
func framesOk(flow impl.Flow, frames []impl.Frame) bool {
	for i, f := range frames {
		if flow.Owner[f.Point] != f.Func || (f.Call == -1) != (i == 0) {
			return false
		}
		if i > 0 {
			call := flow.Edges[f.Call]
			if call.Kind != impl.FlCall || call.Arg != f.Func || call.To != frames[i-1].Point {
				return false
			}
		}
	}
	return true
}

// sameOutside says whether nothing but frames, and globals, differs, and neither state has ended.
func sameOutside(a, b impl.State) bool {
	a.Frames, a.Globals = b.Frames, b.Globals
	return sameState(a, b) && a.Kind == impl.RnMore
}

// staysOk: no frame comes or goes.
func staysOk(ahead, s impl.State) bool {
	last := len(s.Frames) - 1
	a, b := ahead.Frames[last], s.Frames[last]
	if s.Kind != impl.RnMore && ahead.Kind == impl.RnMore {
		ahead.Kind, ahead.Fault, ahead.At = s.Kind, s.Fault, s.At
		return sameState(ahead, s)
	}
	return slices.EqualFunc(ahead.Frames[:last], s.Frames[:last], sameFrame) && a.Func == b.Func && a.Call == b.Call
}

// opensOk: a frame comes, with nothing but parameters; the caller stands where it goes on.
func opensOk(flow impl.Flow, nodes []impl.Node, table impl.Table, ahead, s impl.State) bool {
	caller, opened := ahead.Frames[len(ahead.Frames)-1], s.Frames[len(s.Frames)-1]
	call := flow.Edges[opened.Call]
	ok := call.From == caller.Point && len(nodes[call.Node].Kids)-1 == table.Funcs[opened.Func].Params && opened.Point == flow.Entry[opened.Func]
	caller.Point = call.To
	below := append(slices.Clone(ahead.Frames[:len(ahead.Frames)-1]), caller)
	for _, v := range opened.Ints[table.Funcs[opened.Func].Params:] {
		ok = ok && v == 0
	}
	for _, r := range opened.Refs {
		ok = ok && r == impl.Ref{Array: -1}
	}
	return ok && slices.EqualFunc(below, s.Frames[:len(s.Frames)-1], sameFrame) && slices.Equal(ahead.Globals, s.Globals) && sameOutside(ahead, s)
}

// leavesOk: the last frame goes along an FlReturn, and nothing changes but the name of the call.
func leavesOk(flow impl.Flow, nodes []impl.Node, table impl.Table, ahead, s impl.State) bool {
	left := ahead.Frames[len(ahead.Frames)-1]
	out := impl.FlowOut(flow, left.Point)
	ok := len(out) == 1 && flow.Edges[out[0]].Kind == impl.FlReturn && sameOutside(ahead, s)
	name := nodes[flow.Edges[left.Call].Node].Name
	ahead = copyOf(ahead)
	ahead.Frames = ahead.Frames[:len(ahead.Frames)-1]
	caller, now := &ahead.Frames[len(ahead.Frames)-1], s.Frames[len(s.Frames)-1]
	if caller.Func != now.Func {
		return false
	}
	if at := slices.Index(table.Funcs[caller.Func].Ints, name); at >= 0 {
		caller.Ints[at] = now.Ints[at]
	} else {
		at = slices.Index(table.Globals, name)
		ahead.Globals[at] = s.Globals[at]
	}
	return ok && slices.EqualFunc(ahead.Frames, s.Frames, sameFrame) && slices.Equal(ahead.Globals, s.Globals)
}

// checkWalkPromises asks all promises of walks, of the states of one.
func checkWalkPromises(t *testing.T, text string, inputs []int, states []impl.State) {
	t.Helper()
	checkPromise19(t, text, inputs)
	checkPromise20(t, text, inputs, states)
	checkPromise21(t, text, inputs, states)
}

// firstStates are the states of a walk up to so many edges, and one behind its end.
func firstStates(text string, inputs []int, most int) []impl.State {
	var list []impl.State
	for steps := 0; steps <= most; steps++ {
		list = append(list, impl.WalkState(text, inputs, steps))
		if steps > 0 && list[steps-1].Kind != impl.RnMore {
			break
		}
	}
	return list
}

func TestWalkOfMadePrograms(t *testing.T) {
	d := newDice()
	kinds, faults, deep, edges := map[int]int{}, map[int]int{}, 0, map[int]int{}
	for _, r := range makeRuns(d, 500) {
		judged := judgeWalk(r.text, r.inputs, 400)
		end := len(judged) - 1
		for _, steps := range []int{0, 1, 2, 3, end / 2, end - 1, end, d.roll(end + 1), d.roll(end + 1), d.roll(end + 1), d.roll(end + 1)} {
			if got := impl.WalkState(r.text, r.inputs, steps); steps >= 0 && steps <= end && !sameState(got, judged[steps]) {
				t.Fatalf("WalkState(%q, %v, %d) is\n%v\nbut it is judged\n%v", r.text, r.inputs, steps, got, judged[steps])
			}
		}
		last := judged[end]
		if last.Kind != impl.RnMore {
			if run := impl.WalkRun(r.text, r.inputs); !sameOutcome(run, outcomeOf(last, end)) {
				t.Fatalf("WalkRun(%q, %v) is %v, but it is judged %v in %d edges", r.text, r.inputs, run, last, end)
			}
		}
		kinds[last.Kind]++
		faults[last.Fault]++
		flow, _ := impl.FlowOf(r.text)
		for _, s := range judged {
			point := s.Frames[len(s.Frames)-1].Point
			edges[flow.Edges[slices.IndexFunc(flow.Edges, func(e impl.Edge) bool { return e.From == point })].Kind]++
			if len(s.Frames) > 3 {
				deep++
			}
		}
	}
	for kind := impl.RnMore; kind <= impl.RnFault; kind++ {
		if kinds[kind] < 50 {
			t.Error("too few walks of a kind", kinds)
		}
	}
	for fault := impl.FaOver; fault <= impl.FaDepth; fault++ {
		if faults[fault] < 3 {
			t.Error("too few walks with a fault", faults)
		}
	}
	for kind := impl.FlSkip; kind <= impl.FlNext; kind++ {
		if edges[kind] < 40 {
			t.Error("too few edges of a kind", edges)
		}
	}
	if deep < 1000 {
		t.Error("too few states with many frames", deep)
	}
}

func TestPromise19TheGraphDoesWhatTheProgramDoes(t *testing.T) {
	d := newDice()
	both := 0
	for _, r := range makeRuns(d, 600) {
		checkPromise19(t, r.text, r.inputs)
		if impl.TreeRun(r.text, r.inputs, impl.RunMaxSteps).Kind != impl.RnMore && impl.WalkRun(r.text, r.inputs).Kind != impl.RnMore {
			both++
		}
	}
	if both < 700 {
		t.Error("too few runs and walks end both", both)
	}
}

// One of both may be out of steps where the other one ends.
func TestPromise19WhereOneIsOutOfSteps(t *testing.T) {
	// Each round is one step of the tree and three edges, so that the walk ends with edge 18003, and the tree does not.
	const rounds = "func main() { var i; for i = 0 .. 6000 { } print i; @print 1 / 0; }"
	// Each round is two steps and 32 edges: the tree ends, and the walk does not.
	long := "func main() { var i; while i < 1000" + strings.Repeat(" and i < 1000", 30) + " { i = i + 1; } print i; }"
	text, _ := cutMark(t, rounds)
	for _, c := range []struct {
		text       string
		tree, walk impl.Outcome
	}{
		{text, isMore(5000), impl.Outcome{Kind: impl.RnFault, Fault: impl.FaZero, At: strings.Index(text, "/"), Steps: 18004, Output: []int{6000}}},
		{long, isDone(2003, 1000), isMore(20000)},
	} {
		checkPromise19(t, c.text, nil)
		if tree, walk := impl.TreeRun(c.text, nil, impl.RunMaxSteps), impl.WalkRun(c.text, nil); !sameOutcome(tree, c.tree) || !sameOutcome(walk, c.walk) {
			t.Errorf("%q: the run of the tree is %v, the walk is %v", c.text, tree, walk)
		}
	}
}

func TestPromise20WalksGoOnWhereTheyStood(t *testing.T) {
	d := newDice()
	ended, printed := 0, 0
	for _, r := range makeRuns(d, 150) {
		states := firstStates(r.text, r.inputs, 60)
		checkPromise20(t, r.text, r.inputs, states)
		far := []impl.State{states[len(states)-1]}
		for _, steps := range []int{100, 1000, impl.WalkMaxSteps, impl.WalkMaxSteps + 1} {
			far = append(far, impl.WalkState(r.text, r.inputs, steps))
		}
		checkPromise20(t, r.text, r.inputs, far)
		if far[0].Kind != impl.RnMore {
			ended++
		}
		printed += len(far[len(far)-1].Output)
	}
	if ended < 100 || printed < 1000 {
		t.Error("too few walks end, or they print too little", ended, printed)
	}
}

func TestPromise21OneEdgeOpensOrLeavesOneFunction(t *testing.T) {
	d := newDice()
	opened, left := 0, 0
	for _, r := range makeRuns(d, 250) {
		states := firstStates(r.text, r.inputs, 60)
		checkPromise21(t, r.text, r.inputs, states)
		for steps := range states[1:] {
			switch len(states[steps+1].Frames) - len(states[steps].Frames) {
			case 1:
				opened++
			case -1:
				left++
			}
		}
	}
	if opened < 250 || left < 60 {
		t.Error("too few functions are opened, or left", opened, left)
	}
}

// The states of a text are those of any other text with the same tree, but for the place of a fault.
func TestWalkDoesNotHangOnLayout(t *testing.T) {
	d := newDice()
	taken := 0
	for _, r := range makeRuns(d, 200) {
		written, _ := impl.ParsePrint(r.text)
		for _, other := range []string{written, relaid(d, r.text)} {
			if _, fault := impl.NameTable(other); fault != (impl.Fault{}) {
				continue
			}
			taken++
			steps := d.roll(300)
			s, again := impl.WalkState(r.text, r.inputs, steps), impl.WalkState(other, r.inputs, steps)
			again.At = s.At
			if !sameState(s, again) {
				t.Errorf("WalkState(%.600q, %v, %d) is\n%v\nbut of %.600q it is\n%v", r.text, r.inputs, steps, s, other, again)
			}
		}
	}
	if taken < 400 {
		t.Error("too few texts are taken", taken)
	}
}

func TestWalkOfSpoiltPrograms(t *testing.T) {
	d := newDice()
	for _, p := range growPrograms(200) {
		for _, text := range []string{spoilNames(d, p.text), p.text[:d.roll(len(p.text))]} {
			inputs := anyInputs(d)
			judged := judgeWalk(text, inputs, 50)
			if len(judged) == 0 {
				checkNoWalk(t, text, inputs)
				continue
			}
			checkState(t, text, inputs, len(judged)-1, judged[len(judged)-1])
		}
	}
}

// stateLists are all lists of a state of numbers.
func stateLists(s *impl.State) []*[]int {
	lists := []*[]int{&s.Globals, &s.Output}
	for i := range s.Arrays {
		lists = append(lists, &s.Arrays[i].List)
	}
	for i := range s.Frames {
		lists = append(lists, &s.Frames[i].Ints)
	}
	return lists
}

// No list of an answer shares memory with another one, with another answer, or with the inputs, spare room included.
func TestWalkMemory(t *testing.T) {
	const text = "array a[2]; array b[3]; var g; var h; func f(x) { var y; ref p, q; p = &a[1]; *p = 5; b[2] = 6; g = x; print x; print 9; y = f(x + 1); } " +
		"func main() { var i; ref p; while 1 < 2 { read i; print i; if i > 2 { p = &b[1]; i = f(i); } } }"
	room := []int{1, 2, 3, 44, 55}
	const steps = 32
	want := copyOf(impl.WalkState(text, room[:3], steps))
	want.Output = slices.Clone(want.Output)
	if len(want.Frames) < 3 || len(want.Output) < 4 || want.Kind != impl.RnMore {
		t.Fatal("the state has too little in it", want)
	}
	for which := range stateLists(&want) {
		s := impl.WalkState(text, room[:3], steps)
		spoilt(*stateLists(&s)[which], -77)
		*stateLists(&s)[which] = *stateLists(&want)[which]
		if !sameState(s, want) {
			t.Errorf("list %d is written into, and others are\n%v\nnot\n%v", which, s, want)
		}
	}
	for which := range want.Frames {
		s := impl.WalkState(text, room[:3], steps)
		spoilt(s.Frames[which].Refs, impl.Ref{Array: -77})
		s.Frames[which].Refs = want.Frames[which].Refs
		if !sameState(s, want) {
			t.Errorf("the refs of frame %d are written into, and others are\n%v\nnot\n%v", which, s, want)
		}
	}
	run := impl.WalkRun(text, room[:3])
	spoilt(run.Output, -77)
	checkState(t, text, room[:3], steps, want)
	if !slices.Equal(room, []int{1, 2, 3, 44, 55}) {
		t.Error("the inputs were written into", room)
	}
}

// Walks do not hang on each other, be they gone at once; and none goes on when the call has answered.
func TestWalksAtOnce(t *testing.T) {
	before := runtime.NumGoroutine()
	runs := makeRuns(newDice(), 40)
	alone := make([]impl.State, len(runs))
	for i, r := range runs {
		alone[i] = impl.WalkState(r.text, r.inputs, 200+i)
	}
	var all sync.WaitGroup
	for i, r := range runs {
		all.Go(func() {
			if s := impl.WalkState(r.text, r.inputs, 200+i); !sameState(s, alone[i]) {
				t.Errorf("WalkState(%.400q, %v, %d) is %v, but alone %v", r.text, r.inputs, 200+i, s, alone[i])
			}
		})
	}
	all.Wait()
	for range 200 {
		if runtime.NumGoroutine() <= before {
			return
		}
		time.Sleep(5 * time.Millisecond)
	}
	t.Error("walks go on:", runtime.NumGoroutine()-before)
}
