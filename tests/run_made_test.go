package tests

import (
	"slices"
	"testing"

	"loop.example/sedge/impl"
)

// beginsWith says whether a list begins with another one.
func beginsWith(list, first []int) bool {
	return len(list) >= len(first) && slices.Equal(list[:len(first)], first)
}

// given is how many steps a run is given when so many are told.
func given(steps int) int {
	return min(max(steps, 0), impl.RunMaxSteps)
}

// someSteps are numbers of steps, ascending: small ones, those about the end of a run, and any.
func someSteps(d *dice, end int) []int {
	list := []int{-1, 0, 1, 2, 3, 5, 8, end / 2, end - 2, end - 1, end, end + 1, impl.RunMaxSteps, impl.RunMaxSteps + 1}
	for range 4 {
		list = append(list, d.roll(end+1))
	}
	slices.Sort(list)
	return slices.Compact(list)
}

// checkPromise12: a run goes on where it stood, and stays as it is when it has ended.
func checkPromise12(t *testing.T, text string, inputs []int, counts []int) {
	t.Helper()
	last := impl.Outcome{Kind: impl.RnMore}
	for _, steps := range counts {
		o := impl.TreeRun(text, inputs, steps)
		if !beginsWith(o.Output, last.Output) || last.Kind != impl.RnMore && !sameOutcome(o, last) {
			t.Errorf("TreeRun(%.400q, %v, %d) is %v, but with fewer steps %v", text, inputs, steps, o, last)
		}
		last = o
	}
}

// checkPromise13: a run takes no more steps than it is given, and all of them when it would go on.
func checkPromise13(t *testing.T, text string, inputs []int, counts []int) {
	t.Helper()
	for _, steps := range counts {
		o := impl.TreeRun(text, inputs, steps)
		if o.Steps < 0 || o.Steps > given(steps) || o.Kind == impl.RnMore && o.Steps != given(steps) {
			t.Errorf("TreeRun(%.400q, %v, %d) is %v", text, inputs, steps, o)
		}
	}
}

// faultyNode is the place of the node that has an outcome's fault, -1 when it has none, -2 when no node has it.
func faultyNode(text string, o impl.Outcome) int {
	if o.Kind != impl.RnFault {
		return -1
	}
	nodes, _ := impl.ParseTree(text)
	faulty := []int{impl.NdStore, impl.NdPut, impl.NdAddr, impl.NdMove, impl.NdAssert, impl.NdCall, impl.NdElem, impl.NdDeref, impl.NdOp}
	for place, node := range nodes {
		if node.At == o.At && slices.Contains(faulty, node.Kind) {
			return place
		}
	}
	return -2
}

// checkPromise14: of a text, and of another one with the same tree, the outcomes are the same but for places.
func checkPromise14(t *testing.T, text, other string, inputs []int, steps int) bool {
	t.Helper()
	if _, fault := impl.NameTable(other); fault != (impl.Fault{}) {
		return false
	}
	o, again := impl.TreeRun(text, inputs, steps), impl.TreeRun(other, inputs, steps)
	node, nodeAgain := faultyNode(text, o), faultyNode(other, again)
	if node == -2 || node != nodeAgain {
		t.Errorf("the fault of %.400q is at node %d, that of %.400q at node %d", text, node, other, nodeAgain)
	}
	o.At, again.At = 0, 0
	if !sameOutcome(o, again) {
		t.Errorf("TreeRun(%.400q, %v, %d) is %v, but of %.400q it is %v", text, inputs, steps, o, other, again)
	}
	return true
}

// checkPromise15: with more inputs a run prints what it printed, and goes the same way as far as it did not end for
// want of them.
func checkPromise15(t *testing.T, text string, inputs, behind []int, steps int) {
	t.Helper()
	all := slices.Concat(inputs, behind)
	if len(all) > impl.RunMaxInputs {
		return
	}
	o, again := impl.TreeRun(text, inputs, steps), impl.TreeRun(text, all, steps)
	if !beginsWith(again.Output, o.Output) || o.Kind != impl.RnDone && !sameOutcome(o, again) || again.Steps < o.Steps {
		t.Errorf("TreeRun(%.400q, %v, %d) is %v, but with %v behind it is %v", text, inputs, steps, o, behind, again)
	}
}

// checkRunPromises asks all promises of a run.
func checkRunPromises(t *testing.T, d *dice, text string, inputs []int) {
	t.Helper()
	counts := someSteps(d, impl.TreeRun(text, inputs, impl.RunMaxSteps).Steps)
	checkPromise12(t, text, inputs, counts)
	checkPromise13(t, text, inputs, counts)
	written, _ := impl.ParsePrint(text)
	checkPromise14(t, text, written, inputs, impl.RunMaxSteps)
	checkPromise15(t, text, inputs, []int{d.roll(9) - 3}, impl.RunMaxSteps)
}

// madeRun is a program that is taken, and inputs for it.
type madeRun struct {
	text   string
	inputs []int
}

// makeRuns are runs of programs of both kinds: most of the grown ones end soon, most of the live ones late.
func makeRuns(d *dice, count int) []madeRun {
	var list []madeRun
	for _, p := range growPrograms(count) {
		list = append(list, madeRun{p.text, anyInputs(d)})
	}
	for _, text := range growLive(count) {
		list = append(list, madeRun{text, anyInputs(d)})
	}
	return append(list, madeRun{everyDeed, []int{5}}, madeRun{everyDeed, []int{4}}, madeRun{allNames, nil}, madeRun{inNamed(""), nil})
}

func TestRunOfMadePrograms(t *testing.T) {
	d := newDice()
	kinds, faults, long := map[int]int{}, map[int]int{}, 0
	for _, r := range makeRuns(d, 1000) {
		for _, steps := range []int{impl.RunMaxSteps + 1, d.roll(40)} {
			o := impl.TreeRun(r.text, r.inputs, steps)
			if judged := judgeRun(r.text, r.inputs, steps); !sameOutcome(o, judged) {
				t.Fatalf("TreeRun(%q, %v, %d) is %v, but it is judged %v", r.text, r.inputs, steps, o, judged)
			}
			kinds[o.Kind]++
			faults[o.Fault]++
			if o.Steps > 30 && len(o.Output) > 5 {
				long++
			}
		}
	}
	for kind := impl.RnMore; kind <= impl.RnFault; kind++ {
		if kinds[kind] < 200 {
			t.Error("too few runs of a kind", kinds)
		}
	}
	for fault := impl.FaOver; fault <= impl.FaDepth; fault++ {
		if faults[fault] < 5 {
			t.Error("too few runs with a fault", faults)
		}
	}
	if long < 100 {
		t.Error("too few long runs", long)
	}
}

func TestPromise12RunsGoOnWhereTheyStood(t *testing.T) {
	d := newDice()
	ended := 0
	for _, r := range makeRuns(d, 300) {
		end := impl.TreeRun(r.text, r.inputs, impl.RunMaxSteps).Steps
		counts := someSteps(d, end)
		if end < 40 {
			counts = upTo(end + 3)
			ended++
		}
		checkPromise12(t, r.text, r.inputs, counts)
	}
	if ended < 300 {
		t.Error("too few runs are gone through step by step", ended)
	}
}

func TestPromise13RunsTakeNoMoreThanTheyAreGiven(t *testing.T) {
	d := newDice()
	for _, r := range makeRuns(d, 300) {
		end := impl.TreeRun(r.text, r.inputs, impl.RunMaxSteps).Steps
		checkPromise13(t, r.text, r.inputs, someSteps(d, end))
	}
}

func TestPromise14RunsDoNotHangOnLayout(t *testing.T) {
	d := newDice()
	taken := 0
	for _, r := range makeRuns(d, 500) {
		written, _ := impl.ParsePrint(r.text)
		for _, other := range []string{written, relaid(d, r.text)} {
			for _, steps := range []int{impl.RunMaxSteps, d.roll(20)} {
				if checkPromise14(t, r.text, other, r.inputs, steps) {
					taken++
				}
			}
		}
	}
	if taken < 2000 {
		t.Error("too few texts are taken", taken)
	}
}

func TestPromise15InputsThatAreNotReadDoNotMatter(t *testing.T) {
	d := newDice()
	longer := 0
	for _, r := range makeRuns(d, 500) {
		for _, count := range slices.Compact([]int{0, len(r.inputs) / 4, len(r.inputs) / 2}) {
			ahead, behind := r.inputs[:count], r.inputs[count:]
			checkPromise15(t, r.text, ahead, behind, impl.RunMaxSteps)
			if impl.TreeRun(r.text, ahead, impl.RunMaxSteps).Steps < impl.TreeRun(r.text, r.inputs, impl.RunMaxSteps).Steps {
				longer++
			}
		}
		checkPromise15(t, r.text, r.inputs, make([]int, impl.RunMaxInputs-len(r.inputs)), d.roll(100))
	}
	if longer < 100 {
		t.Error("too few runs go on with more inputs", longer)
	}
}
