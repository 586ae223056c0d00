package tests

import (
	"math"
	"slices"
	"strconv"
	"strings"
	"testing"

	"loop.example/sedge/impl"
)

func sameFrame(a, b impl.Frame) bool {
	return a.Func == b.Func && a.Point == b.Point && a.Call == b.Call && slices.Equal(a.Ints, b.Ints) && slices.Equal(a.Refs, b.Refs)
}

func sameCells(a, b impl.Cells) bool {
	return slices.Equal(a.List, b.List)
}

func sameState(a, b impl.State) bool {
	return a.Kind == b.Kind && a.Fault == b.Fault && a.At == b.At && a.Used == b.Used && slices.EqualFunc(a.Frames, b.Frames, sameFrame) &&
		slices.Equal(a.Globals, b.Globals) && slices.EqualFunc(a.Arrays, b.Arrays, sameCells) && slices.Equal(a.Output, b.Output)
}

// outcomeOf is what WalkRun must tell of a state with which a walk leaves off.
func outcomeOf(s impl.State, edges int) impl.Outcome {
	return impl.Outcome{Kind: s.Kind, Fault: s.Fault, At: s.At, Steps: edges, Output: s.Output}
}

// script makes states of what edges change: all that an edge does not name stays as it was.
type script struct {
	t     *testing.T
	table impl.Table
	at    int
	state impl.State
}

func newScript(t *testing.T, text string, at int) *script {
	t.Helper()
	table, fault := impl.NameTable(text)
	if fault != (impl.Fault{}) {
		t.Fatalf("%q is not taken: %v", text, fault)
	}
	c := &script{t: t, table: table, at: at, state: impl.State{Kind: impl.RnMore, Globals: make([]int, len(table.Globals))}}
	for _, array := range table.Arrays {
		c.state.Arrays = append(c.state.Arrays, impl.Cells{List: make([]int, array.Size)})
	}
	return c
}

func (c *script) last() *impl.Frame {
	return &c.state.Frames[len(c.state.Frames)-1]
}

func (c *script) num(text string) int {
	v, err := strconv.Atoi(text)
	if err != nil {
		c.t.Fatalf("%q is no number", text)
	}
	return v
}

// open puts a frame behind the others, told as FUNC@POINT/CALL(PARAMS).
func (c *script) open(told string) {
	fn, rest, _ := strings.Cut(told, "@")
	point, rest, _ := strings.Cut(rest, "/")
	call, params, _ := strings.Cut(strings.TrimSuffix(rest, ")"), "(")
	declared := c.table.Funcs[c.num(fn)]
	f := impl.Frame{Func: c.num(fn), Point: c.num(point), Call: c.num(call), Ints: make([]int, len(declared.Ints))}
	if params != "" {
		for i, param := range strings.Split(params, ",") {
			f.Ints[i] = c.num(param)
		}
	}
	for range declared.Refs {
		f.Refs = append(f.Refs, impl.Ref{Array: -1})
	}
	c.state.Frames = append(c.state.Frames, f)
}

func (c *script) array(name string) int {
	return slices.IndexFunc(c.table.Arrays, func(a impl.Array) bool { return a.Name == name })
}

// set sets a number, a cell as a[1]=5, or a reference as p=a:1 or p=-.
func (c *script) set(name, value string) {
	f := c.table.Funcs[c.last().Func]
	if array, place, isCell := strings.Cut(strings.TrimSuffix(name, "]"), "["); isCell {
		c.state.Arrays[c.array(array)].List[c.num(place)] = c.num(value)
		return
	}
	if at := slices.Index(f.Refs, name); at >= 0 {
		ref := impl.Ref{Array: -1}
		if array, place, isPlace := strings.Cut(value, ":"); isPlace {
			ref = impl.Ref{Array: c.array(array), Place: c.num(place)}
		}
		c.last().Refs[at] = ref
		return
	}
	if at := slices.Index(f.Ints, name); at >= 0 {
		c.last().Ints[at] = c.num(value)
		return
	}
	c.state.Globals[slices.Index(c.table.Globals, name)] = c.num(value)
}

// edge is the state behind an edge that makes these changes.
func (c *script) edge(changes string) impl.State {
	c.state = copyOf(c.state)
	c.state.Output = slices.Clone(c.state.Output)
	for _, change := range strings.Fields(changes) {
		name, value, _ := strings.Cut(change, "=")
		switch {
		case change[0] == '@':
			c.last().Point = c.num(change[1:])
		case name == "call":
			c.open(value)
		case name == "leave":
			c.state.Frames = c.state.Frames[:len(c.state.Frames)-1]
		case name == "used":
			c.state.Used++
		case name == "out":
			c.state.Output = append(c.state.Output, c.num(value))
		case name == "done":
			c.state.Kind = impl.RnDone
		case name == "fault":
			c.state.Kind, c.state.Fault, c.state.At = impl.RnFault, c.num(value), c.at
		default:
			c.set(name, value)
		}
	}
	return c.state
}

// checkWalk holds a walk against what its edges change, one by one; the last of them ends it. The first change is the
// frame with which it begins, and the place of a fault is marked in the text.
func checkWalk(t *testing.T, marked string, inputs []int, first string, edges ...string) {
	t.Helper()
	text, at := marked, 0
	if strings.Contains(marked, "@") {
		text, at = cutMark(t, marked)
	}
	c := newScript(t, text, at)
	states := []impl.State{c.edge("call=" + first)}
	for _, changes := range edges {
		states = append(states, c.edge(changes))
	}
	checkStates(t, text, inputs, states)
	if run := impl.WalkRun(text, inputs); !sameOutcome(run, outcomeOf(c.state, len(edges))) {
		t.Errorf("WalkRun(%.400q, %v) is %v, not %v in %d edges", text, inputs, run, c.state, len(edges))
	}
	checkWalkPromises(t, text, inputs, states)
}

// checkStates holds WalkState and the second reading against all states of a walk that ends.
func checkStates(t *testing.T, text string, inputs []int, states []impl.State) {
	t.Helper()
	end := len(states) - 1
	for steps, want := range states {
		checkState(t, text, inputs, steps, want)
	}
	for _, steps := range []int{-1, -2, -impl.WalkMaxSteps, math.MinInt} {
		checkState(t, text, inputs, steps, states[0])
	}
	for _, steps := range []int{end + 1, end + 2, impl.WalkMaxSteps - 1, impl.WalkMaxSteps, impl.WalkMaxSteps + 1, math.MaxInt} {
		checkState(t, text, inputs, steps, states[end])
	}
	if judged := judgeWalk(text, inputs, impl.WalkMaxSteps); !slices.EqualFunc(judged, states, sameState) {
		t.Errorf("%.400q with %v is judged\n%v\nnot\n%v", text, inputs, judged, states)
	}
}

func checkState(t *testing.T, text string, inputs []int, steps int, want impl.State) {
	t.Helper()
	if got := impl.WalkState(text, inputs, steps); !sameState(got, want) {
		t.Errorf("WalkState(%.400q, %v, %d) is\n%v\nnot\n%v", text, inputs, steps, got, want)
	}
}

// inWalked puts statements into a main, which has the ints x and y and the refs p and q and is function 0; so points
// and edges are counted from its first one on. Its points being so many, the function f begins with the next one.
func inWalked(statements string) string {
	return "func main() { var x, y; ref p, q; " + statements + " } func f(n) { var m; m = n + 1; return m; } " +
		"array a[3]; array b[1]; var g; var h;"
}

// checkMain does so of statements in a main.
func checkMain(t *testing.T, statements string, inputs []int, edges ...string) {
	t.Helper()
	checkWalk(t, inWalked(statements), inputs, "0@0/-1()", edges...)
}

func TestWalkConstants(t *testing.T) {
	if impl.WalkMaxSteps != 20000 {
		t.Error("WalkMaxSteps is", impl.WalkMaxSteps)
	}
}

// Every part of every state, written out in full.
func TestWalkStatesInFull(t *testing.T) {
	const text = "array a[2]; var g; func f(x) { ref p; p = &a[x]; *p = 7; return x + 1; } func main() { var y; y = f(1); print y; g = y / 0; }"
	null := impl.Ref{Array: -1}
	frame := func(fn, point, call, number int, refs ...impl.Ref) impl.Frame {
		return impl.Frame{Func: fn, Point: point, Call: call, Ints: []int{number}, Refs: refs}
	}
	state := func(cell int, frames ...impl.Frame) impl.State {
		return impl.State{Kind: impl.RnMore, Frames: frames, Globals: []int{0}, Arrays: []impl.Cells{{List: []int{0, cell}}}}
	}
	// The points of f are 0 to 3, its edges 0 to 3; main begins at 4, calls along edge 4 to 6, goes on to 7 and 5.
	states := []impl.State{
		state(0, frame(1, 4, -1, 0)),
		state(0, frame(1, 6, -1, 0), frame(0, 0, 4, 1, null)),
		state(0, frame(1, 6, -1, 0), frame(0, 2, 4, 1, impl.Ref{Array: 0, Place: 1})),
		state(7, frame(1, 6, -1, 0), frame(0, 3, 4, 1, impl.Ref{Array: 0, Place: 1})),
		state(7, frame(1, 6, -1, 2)),
		state(7, frame(1, 7, -1, 2)),
		state(7, frame(1, 7, -1, 2)),
	}
	states[5].Output, states[6].Output = []int{2}, []int{2}
	states[6].Kind, states[6].Fault, states[6].At = impl.RnFault, impl.FaZero, strings.Index(text, "/ 0")
	checkStates(t, text, nil, states)
	if run := impl.WalkRun(text, nil); !sameOutcome(run, impl.Outcome{Kind: 3, Fault: 2, At: strings.Index(text, "/ 0"), Steps: 6, Output: []int{2}}) {
		t.Error("WalkRun is", run)
	}
	c := newScript(t, text, strings.Index(text, "/ 0"))
	for i, changes := range []string{"call=1@4/-1()", "@6 call=0@0/4(1)", "@2 p=a:1", "@3 a[1]=7", "leave y=2", "@7 out=2", "fault=2"} {
		if got := c.edge(changes); !sameState(got, states[i]) {
			t.Errorf("the script makes %v of %q, not %v", got, changes, states[i])
		}
	}
}

func TestWalkPlainStatements(t *testing.T) {
	checkMain(t, "", nil, "@1", "done")
	checkMain(t, "x = 4; y = x * x; g = y - 1; h = g; read x; print x + g;", []int{7, 8},
		"@2 x=4", "@3 y=16", "@4 g=15", "@5 h=15", "@6 x=7 used", "@1 out=22", "done")
	checkMain(t, "a[2] = 5; b[0] = a[2]; a[a[1]] = 9; print a[0] + b[0]; print -1;", nil,
		"@2 a[2]=5", "@3 b[0]=5", "@4 a[0]=9", "@5 out=14", "@1 out=-1", "done")
	// References stand for cells, and for the place just behind the last one.
	checkMain(t, "p = &a[2]; *p = 6; q = p; p += 1; q += -2; *q = *q - 1; p = null; q = p; p = &b[1]; p = &a[3]; p += -3; p += 3;", nil,
		"@2 p=a:2", "@3 a[2]=6", "@4 q=a:2", "@5 p=a:3", "@6 q=a:0", "@7 a[0]=-1", "@8 p=-", "@9 q=-", "@10 p=b:1", "@11 p=a:3", "@12 p=a:0", "@1 p=a:3", "done")
	// What is set to itself is gone along as well.
	checkMain(t, "x = x; p = p; p = null;", nil, "@2", "@3", "@1", "done")
	checkWalk(t, "func main() { }", nil, "0@0/-1()", "@1", "done")
	checkWalk(t, "var g; func k() { } func main() { g = -2147483647 - 1; } array a[64];", nil, "1@2/-1()", "@3 g=-2147483648", "done")
}

func TestWalkBranches(t *testing.T) {
	checkMain(t, "if x < 1 { x = 5; } else { x = 6; } print x;", nil, "@3", "@2 x=5", "@1 out=5", "done")
	checkMain(t, "if x > 1 { x = 5; } else { x = 6; } print x;", nil, "@4", "@2 x=6", "@1 out=6", "done")
	checkMain(t, "if x < 1 { } print 2;", nil, "@3", "@2", "@1 out=2", "done")
	checkMain(t, "if x > 1 { } print 2;", nil, "@2", "@1 out=2", "done")
	checkMain(t, "if x > 1 { } else { } print 2;", nil, "@4", "@2", "@1 out=2", "done")
	checkMain(t, "if null p { p = &a[3]; } if null p { print 1; }", nil, "@3", "@2 p=a:3", "@1", "done")
	checkMain(t, "if not null p { print 1; } else { print 2; }", nil, "@3", "@1 out=2", "done")
	// The guards of a condition are gone along one by one, and only those that tell.
	checkMain(t, "if x == 1 or not [y < 0 and null p] { print 1; }", nil, "@3", "@2", "@1 out=1", "done")
	checkMain(t, "if x == 0 or 1 / x == 1 { print 1; }", nil, "@2", "@1 out=1", "done")
	checkMain(t, "if x == 1 and 1 / x == 1 { print 1; } else { print 2; }", nil, "@3", "@1 out=2", "done")
	checkMain(t, "if x == 0 and y == 0 and null p { print 1; }", nil, "@4", "@3", "@2", "@1 out=1", "done")
	checkMain(t, "if not [x == 0 or y == 0] { print 1; } else { print 2; }", nil, "@3", "@1 out=2", "done")
	for _, c := range []struct {
		comparison string
		holds      bool
	}{{"==", false}, {"!=", true}, {"<", true}, {"<=", true}, {">", false}, {">=", false}} {
		to := map[bool]string{true: "@2", false: "@3"}[c.holds]
		checkMain(t, "if -1 "+c.comparison+" 0 { } else { }", nil, to, "@1", "done")
		checkMain(t, "if 0 "+c.comparison+" 0 { } else { }", nil, map[bool]string{true: "@2", false: "@3"}[strings.HasSuffix(c.comparison, "=") && c.comparison != "!="], "@1", "done")
	}
}

func TestWalkWhile(t *testing.T) {
	checkMain(t, "while x < 2 { x = x + 1; } print x;", nil, "@3", "@4", "@3 x=1", "@4", "@3 x=2", "@2", "@1 out=2", "done")
	checkMain(t, "while x > 2 { } print x;", nil, "@3", "@2", "@1 out=0", "done")
	checkMain(t, "while null p { p = &a[0]; }", nil, "@2", "@3", "@2 p=a:0", "@1", "done")
	checkMain(t, "while x < 1 or y < 1 { if x == 0 { x = 1; } else { y = 1; } }", nil,
		"@2", "@3", "@5", "@2 x=1", "@4", "@3", "@6", "@2 y=1", "@4", "@1", "done")
	checkMain(t, "while x < 1 { while y < 1 { y = 1; } x = y; }", nil, "@2", "@3", "@5", "@6", "@5 y=1", "@4", "@2 x=1", "@1", "done")
}

func TestWalkFor(t *testing.T) {
	checkMain(t, "for x = 1 .. 3 { y = y + x; } print y;", nil,
		"@3 x=1", "@4", "@5 y=1", "@3 x=2", "@4", "@5 y=3", "@3 x=3", "@2", "@1 out=3", "done")
	checkMain(t, "for x = 0 .. 1 { }", nil, "@2 x=0", "@3", "@4", "@2 x=1", "@1", "done")
	checkMain(t, "x = 9; for x = 5 .. 3 { print 1; } print x;", nil, "@2 x=9", "@4 x=5", "@3", "@1 out=5", "done")
	checkMain(t, "x = 2; for x = x + 1 .. x + 1 { if x > 3 { stop; } }", nil, "@2 x=2", "@3 x=3", "@4", "@5", "@3 x=4", "@4", "@6", "done")
	// The second term is reckoned at each test.
	checkMain(t, "y = 2; for x = 0 .. y { y = 1; }", nil, "@2 y=2", "@3", "@4", "@5 y=1", "@3 x=1", "@1", "done")
	// The name may become the greatest number, and is not counted on from there.
	checkMain(t, "for x = 2147483646 .. 2147483647 { }", nil, "@2 x=2147483646", "@3", "@4", "@2 x=2147483647", "@1", "done")
	checkMain(t, "for x = 2147483647 .. 2147483647 { }", nil, "@2 x=2147483647", "@1", "done")
	checkMain(t, "for x = -2147483647 - 1 .. -2147483647 { print x; }", nil,
		"@2 x=-2147483648", "@3", "@4 out=-2147483648", "@2 x=-2147483647", "@1", "done")
	checkMain(t, "for x = 0 .. 2 { for y = x .. 1 { } }", nil,
		"@2", "@3", "@5", "@6", "@7", "@5 y=1", "@4", "@2 x=1", "@3", "@5 y=1", "@4", "@2 x=2", "@1", "done")
	checkMain(t, "for x = 0 .. 3 { return x; }", nil, "@2", "@3", "done")
}

func TestWalkReads(t *testing.T) {
	checkMain(t, "read x; read g; print x - g; read y; print 9;", []int{4, -1}, "@2 x=4 used", "@3 g=-1 used", "@4 out=5", "done")
	checkMain(t, "read x; read g; read y;", []int{1 << 32, 1<<31 + 7, math.MinInt, 5}, "@2 used", "@3 g=-2147483641 used", "@1 used", "done")
	checkMain(t, "read x; print 1;", nil, "done")
	checkMain(t, "read x; print x;", []int{3}, "@2 x=3 used", "@1 out=3", "done")
	checkMain(t, "print 1;", []int{3, 4}, "@1 out=1", "done")
	checkMain(t, "while x >= 0 { read x; }", []int{1, -1, 5}, "@2", "@3", "@2 x=1 used", "@3", "@2 x=-1 used", "@1", "done")
	const called = "func r() { var n; read n; g = g + n; return n * 2; } func main() { var x; x = r(); print x; x = r(); print 9; } var g;"
	// The points of r are 0 to 3, main begins at 4 and goes on to 6, 7, 8 and 5; its calls are the edges 4 and 6.
	checkWalk(t, called, []int{5}, "1@4/-1()", "@6 call=0@0/4()", "@2 n=5 used", "@3 g=5", "leave x=10", "@7 out=10", "@8 call=0@0/6()", "done")
	checkWalk(t, called, nil, "1@4/-1()", "@6 call=0@0/4()", "done")
}

func TestWalkReturnsAndStops(t *testing.T) {
	checkMain(t, "return 3; x = 1;", nil, "done")
	checkMain(t, "x = 1; stop; x = 2;", nil, "@2 x=1", "done")
	checkMain(t, "if x == 0 { return x; } print 1;", nil, "@3", "done")
	checkMain(t, "if x == 0 { stop; } print 1;", nil, "@3", "done")
	// A stop in a called function leaves all frames where they are.
	const stops = "func s(n) { g = n; if n > 0 { stop; } return 5; } func main() { var x; x = s(0); g = s(x); print 1; } var g;"
	// The points of s are 0 to 4; main begins at 5 and goes on to 7, 8 and 6; its calls are the edges 6 and 7.
	checkWalk(t, stops, nil, "1@5/-1()", "@7 call=0@0/6(0)", "@2", "@3", "leave x=5", "@8 call=0@0/7(5)", "@2 g=5", "@4", "done")
}

// A caller stands where it goes on while what it called runs; each frame knows the edge that called it.
func TestWalkCalls(t *testing.T) {
	// The points of main are 0 to 2, or 0 and 1; f comes behind, and goes on to the third of its points.
	checkMain(t, "x = f(4); print x;", nil, "@2 call=1@3/0(4)", "@5 m=5", "leave x=5", "@1 out=5", "done")
	checkMain(t, "g = f(g);", nil, "@1 call=1@2/0(0)", "@4 m=1", "leave g=1", "done")
	// c has the points 0 to 2, b 3 to 5; main begins at 6 and goes on to 8, 9 and 7. The calls are the edges 3, 7 and 8.
	checkWalk(t, "func c(z) { g = z; return z * 2; } func b(y) { var t; t = c(y + 1); return t; } func main() { var x; print 0; x = b(1); g = b(x); } var g;", nil,
		"2@6/-1()", "@8 out=0", "@9 call=1@3/7(1)", "@5 call=0@0/3(2)", "@2 g=2", "leave t=4", "leave x=4",
		"@7 call=1@3/8(4)", "@5 call=0@0/3(5)", "@2 g=5", "leave t=10", "leave g=10", "done")
	// One that is left without a return is left with 0.
	checkWalk(t, "func e() { g = g + 2; a[1] = g; } func main() { var x; x = 9; x = e(); g = e(); } var g; array a[2];", nil,
		"1@3/-1()", "@5 x=9", "@6 call=0@0/4()", "@2 g=2", "@1 a[1]=2", "leave x=0", "@4 call=0@0/5()", "@2 g=4", "@1 a[1]=4", "leave g=0", "done")
	// Globals and arrays that a called function changes stay so; its ints and refs are its own.
	checkWalk(t, "func w(n) { ref p; p = &a[n]; *p = n + 5; g = g + a[n]; } func main() { var x; ref p; p = &a[1]; x = 7; x = w(1); print *p; print g + x; } array a[2]; var g;", nil,
		"1@4/-1()", "@6 p=a:1", "@7 x=7", "@8 call=0@0/6(1)", "@2 p=a:1", "@3 a[1]=6", "@1 g=6", "leave x=0", "@9 out=6", "@5 out=6", "done")
	checkWalk(t, "func w(x, y, z) { var s; s = x - y; x = 0; return s * z; } func main() { var x, y; x = 5; y = w(x, x - 2, 4); print x; }", nil,
		"1@4/-1()", "@6 x=5", "@7 call=0@0/5(5,3,4)", "@2 s=2", "@3 x=0", "leave y=8", "@5 out=5", "done")
	// A main that is called has the edge that called it, and is left like another function.
	checkWalk(t, "var g; func main() { var x; g = g + 1; if g < 3 { x = main(); } return g * 10; }", nil,
		"0@0/-1()", "@2 g=1", "@4", "@3 call=0@0/3()", "@2 g=2", "@4", "@3 call=0@0/3()", "@2 g=3", "@3", "leave x=30", "leave x=30", "done")
}

// depthScript are the edges of d(n), which calls itself from its point 3 along edge 2, until 12 functions run.
func depthScript(n int) []string {
	edges := []string{"@6 call=0@0/5(" + strconv.Itoa(n) + ")"}
	for running := 2; n > 1; running++ {
		if running == 12 {
			return append(edges, "@3", "fault=7")
		}
		n--
		edges = append(edges, "@3", "@2 call=0@0/2("+strconv.Itoa(n)+")")
	}
	return append(edges, "@2")
}

// RunMaxDepth functions may run at once, main among them.
func TestWalkDepth(t *testing.T) {
	down := func(n int) string {
		return "func d(n) { var x; if n > 1 { @x = d(n - 1); } return x + 1; } func main() { var x; x = d(" + strconv.Itoa(n) + "); print x; }"
	}
	for _, n := range []int{1, 2, 10, 11} {
		edges := depthScript(n)
		for left := range n {
			edges = append(edges, "leave x="+strconv.Itoa(left+1))
		}
		edges = append(edges, "@5 out="+strconv.Itoa(n), "done")
		checkWalk(t, strings.ReplaceAll(down(n), "@", ""), nil, "1@4/-1()", edges...)
	}
	for _, n := range []int{12, 13, 100} {
		checkWalk(t, down(n), nil, "1@4/-1()", depthScript(n)...)
	}
	if s := impl.WalkState(strings.ReplaceAll(down(12), "@", ""), nil, impl.WalkMaxSteps); len(s.Frames) != 12 || s.Frames[11].Point != 3 || s.Frames[10].Point != 2 {
		t.Error("at the depth", s)
	}
	// The terms of a call come ahead of its own fault.
	terms := "func d(n) { var x; x = d(n - 1 + 0 @/ (n - 1)); } func main() { var x; x = d(11); }"
	edges := []string{"@3 call=0@0/2(11)"}
	for n := 10; n > 0; n-- {
		edges = append(edges, "@1 call=0@0/0("+strconv.Itoa(n)+")")
	}
	checkWalk(t, terms, nil, "1@2/-1()", append(edges, "fault=2")...)
}

// faultCase are statements with a fault that is marked, and what the edges ahead of it change.
type faultCase struct {
	fault int
	body  string
	ahead []string
}

// Every fault, at every kind of edge: Point stays, and nothing of the edge is done.
func TestWalkFaults(t *testing.T) {
	ahead := func(edges ...string) []string { return edges }
	for _, c := range []faultCase{
		{impl.FaOver, "x = 5; x = 2147483647 @+ 1;", ahead("@2 x=5")}, {impl.FaOver, "print 1; print 65536 @* 65536;", ahead("@2 out=1")},
		{impl.FaOver, "g = 1 @<< 31;", nil}, {impl.FaOver, "a[0] = @-(-2147483647 - 1);", nil}, {impl.FaOver, "x = (-2147483647 - 1) @/ -1;", nil},
		{impl.FaOver, "x = 6; for x = 2147483647 @+ 1 .. 3 { }", ahead("@2 x=6")}, {impl.FaOver, "x = f(2147483647 @+ 1);", nil},
		{impl.FaZero, "y = 1; for x = 3 .. y @/ 0 { }", ahead("@2 y=1", "@3 x=3")}, {impl.FaZero, "for x = 0 .. 9 @/ (1 - x) { }", ahead("@2", "@3", "@4", "@2 x=1")},
		{impl.FaZero, "x = 1 @/ g;", nil}, {impl.FaZero, "g = 3; g = g @% x;", ahead("@2 g=3")}, {impl.FaZero, "if 1 @/ x == 1 { print 1; } else { print 2; }", nil},
		{impl.FaZero, "if 1 == 1 @/ x { print 1; }", nil}, {impl.FaZero, "if x == 0 and 1 @/ x == 1 { print 1; }", ahead("@3")}, {impl.FaZero, "if x != 0 or 1 @/ x == 1 { print 1; }", ahead("@3")},
		{impl.FaZero, "while 1 @/ x == 1 { }", ahead("@2")}, {impl.FaZero, "assert 1 @/ x == 1;", nil}, {impl.FaZero, "return 1 @/ x;", nil}, {impl.FaZero, "x = f(1 @/ y);", nil},
		{impl.FaZero, "a[0] = 4; a[1] = 1 @/ x;", ahead("@2 a[0]=4")}, {impl.FaZero, "a[9] = 1 @/ x;", nil}, {impl.FaZero, "a[1 @/ x] = 2147483647 + 1;", nil},
		{impl.FaZero, "*p = 1 @/ x;", nil}, {impl.FaZero, "p = &a[0]; *p = 1 @/ x;", ahead("@2 p=a:0")}, {impl.FaZero, "p = &a[1]; p = &a[1 @/ x];", ahead("@2 p=a:1")},
		{impl.FaZero, "p = &a[1]; p += 1 @/ x;", ahead("@2 p=a:1")}, {impl.FaZero, "p += 1 @/ x;", nil},
		{impl.FaShift, "x = 1 @<< 32;", nil}, {impl.FaShift, "x = 7; x = 1 @>> -1;", ahead("@2 x=7")}, {impl.FaShift, "print 0 @<< 32;", nil},
		{impl.FaBounds, "@a[3] = 1;", nil}, {impl.FaBounds, "@a[-1] = 1;", nil}, {impl.FaBounds, "@b[1] = 1;", nil}, {impl.FaBounds, "x = 2; x = @a[x + 1];", ahead("@2 x=2")},
		{impl.FaBounds, "p = &a[3]; x = @*p;", ahead("@2 p=a:3")}, {impl.FaBounds, "p = &a[3]; @*p = 5;", ahead("@2 p=a:3")}, {impl.FaBounds, "p = &b[0]; @p = &a[4];", ahead("@2 p=b:0")},
		{impl.FaBounds, "@p = &a[-1];", nil}, {impl.FaBounds, "p = &a[2]; @p += 2;", ahead("@2 p=a:2")}, {impl.FaBounds, "p = &a[0]; @p += -1;", ahead("@2 p=a:0")},
		{impl.FaBounds, "p = &a[3]; @p += 2147483647;", ahead("@2 p=a:3")}, {impl.FaBounds, "print @b[1];", nil}, {impl.FaBounds, "x = f(@a[3]);", nil}, {impl.FaBounds, "if @a[3] == 0 { }", nil},
		{impl.FaNull, "x = @*p;", nil}, {impl.FaNull, "@*p = 1;", nil}, {impl.FaNull, "@p += 0;", nil}, {impl.FaNull, "@p += 9;", nil}, {impl.FaNull, "p = &a[0]; p = null; x = @*p;", ahead("@2 p=a:0", "@3 p=-")},
		{impl.FaNull, "print 1; print @*q;", ahead("@2 out=1")}, {impl.FaNull, "for x = 1 .. @*p { }", ahead("@2 x=1")},
		{impl.FaAssert, "x = 4; @assert x == 5; x = 6;", ahead("@2 x=4", "@4")}, {impl.FaAssert, "@assert not null p and x == 0;", ahead("@2")}, {impl.FaAssert, "assert x == 0; @assert x == 1;", ahead("@2", "@4")},
		{impl.FaAssert, "@assert x == 1 or y == 1;", ahead("@3", "@2")},
	} {
		checkMain(t, c.body, nil, append(c.ahead, "fault="+strconv.Itoa(c.fault))...)
	}
}

// A fault in a called function leaves all frames as they are.
func TestWalkFaultsInCalledFunctions(t *testing.T) {
	checkWalk(t, "func d(n) { return 10 @/ n; } func main() { var x; x = d(5); print x; x = d(0); print 9; }", nil,
		"1@2/-1()", "@4 call=0@0/2(5)", "leave x=2", "@5 out=2", "@6 call=0@0/4(0)", "fault=2")
	// d has the edges 0 to 5, of which 3 fails, so that main's calls are the edges 6 and 7.
	checkWalk(t, "func d(n) { g = n; @assert g < 5; return g; } func main() { g = d(4); g = d(g + 1); } var g;", nil,
		"1@5/-1()", "@7 call=0@0/6(4)", "@2 g=4", "@3", "leave g=4", "@6 call=0@0/7(5)", "@2 g=5", "@4", "fault=6")
}

// The count of edges, and what was printed, worked out by hand.
func TestWalkRun(t *testing.T) {
	unmarked := strings.ReplaceAll(example, "@", "")
	at := strings.Index(example, "@")
	forever := slices.Repeat([]int{3}, 9999)
	for _, c := range []struct {
		text   string
		inputs []int
		want   impl.Outcome
	}{
		{"func main() { }", nil, isDone(2)}, {"func main() { stop; }", nil, isDone(1)}, {"func main() { print 1; return 2; }", nil, isDone(2, 1)},
		{unmarked, nil, isDone(33)}, {unmarked, []int{0}, isDone(41, 0)}, {unmarked, []int{9, 4}, isDone(41, 27)},
		{unmarked, []int{10}, impl.Outcome{Kind: impl.RnFault, Fault: impl.FaZero, At: at, Steps: 36}},
		{unmarked, []int{-1}, impl.Outcome{Kind: impl.RnFault, Fault: impl.FaZero, At: at, Steps: 35}},
		{everyDeed, []int{1<<32 + 5, 6}, isDone(40, 9, -7, 1, 15, 5)}, {everyDeed, nil, isDone(36, 9, -7, 1, 15)},
		{everyDeed, []int{4}, impl.Outcome{Kind: impl.RnFault, Fault: impl.FaAssert, At: strings.Index(everyDeed, "assert"), Steps: 40, Output: []int{9, -7, 1, 15, 4}}},
		{"func main() { while 1 < 2 { } }", nil, isMore(20000)}, {"func main() { while 1 < 2 { print 3; } }", nil, isMore(20000, forever...)},
	} {
		if got := impl.WalkRun(c.text, c.inputs); !sameOutcome(got, c.want) {
			t.Errorf("WalkRun(%.200q, %v) is %v, not %v", c.text, c.inputs, got, c.want)
		}
		last := impl.WalkState(c.text, c.inputs, impl.WalkMaxSteps)
		if !sameOutcome(outcomeOf(last, c.want.Steps), c.want) {
			t.Errorf("WalkState(%.200q, %v) of all edges is %v", c.text, c.inputs, last)
		}
		if ahead := impl.WalkState(c.text, c.inputs, c.want.Steps-1); ahead.Kind != impl.RnMore {
			t.Errorf("WalkState(%.200q, %v) has ended an edge ahead: %v", c.text, c.inputs, ahead)
		}
		checkPromise19(t, c.text, c.inputs)
	}
}

// A walk goes along WalkMaxSteps edges at most, and may end with the last of them.
func TestWalkStepsLimit(t *testing.T) {
	// A for of so many rounds has three edges for each, and three more.
	counts := func(behind string) string { return "func main() { var i; for i = 0 .. 6665 { } " + behind + "}" }
	for _, c := range []struct {
		behind string
		want   impl.Outcome
	}{
		{"", isDone(19998)}, {"i = i; ", isDone(19999)}, {"i = i; print i; ", isDone(20000, 6665)}, {"print i; i = i; i = i; ", isMore(20000, 6665)},
		{"i = i; stop; print i; ", isDone(19999)}, {"i = i; i = i; stop; ", isDone(20000)}, {"i = i; i = i; i = i; stop; ", isMore(20000)},
	} {
		if got := impl.WalkRun(counts(c.behind), nil); !sameOutcome(got, c.want) {
			t.Errorf("WalkRun(%q) is %v, not %v", counts(c.behind), got, c.want)
		}
		for _, steps := range []int{impl.WalkMaxSteps, impl.WalkMaxSteps + 1, impl.WalkMaxSteps + 2, math.MaxInt} {
			if s := impl.WalkState(counts(c.behind), nil, steps); !sameOutcome(outcomeOf(s, c.want.Steps), c.want) {
				t.Errorf("WalkState(%q, %d) is %v", counts(c.behind), steps, s)
			}
		}
		if s := impl.WalkState(counts(c.behind), nil, c.want.Steps-1); s.Kind != impl.RnMore {
			t.Errorf("WalkState(%q, %d) is %v", counts(c.behind), c.want.Steps-1, s)
		}
	}
	const loop = "func main() { var i; while 1 < 2 { i = i + 1; } }"
	for steps, want := range map[int][2]int{0: {0, 0}, 1: {2, 0}, 2: {3, 0}, 3: {2, 1}, 19998: {3, 9998}, 19999: {2, 9999}, 20000: {3, 9999}, 20001: {3, 9999}, math.MaxInt: {3, 9999}, -1: {0, 0}} {
		checkState(t, loop, nil, steps, impl.State{Kind: impl.RnMore, Frames: []impl.Frame{{Func: 0, Point: want[0], Call: -1, Ints: []int{want[1]}}}})
	}
}

func TestWalkInputsLimit(t *testing.T) {
	const sums = "func main() { var i, sum; while 1 < 2 { read i; sum = sum + i; print sum; } }"
	inputs := slices.Repeat([]int{1}, 200)
	for _, count := range []int{0, 1, 99, 100} {
		output := make([]int, count)
		for i := range output {
			output[i] = i + 1
		}
		// The way into the while, four edges for each input, and the guard and the read that ends it.
		want := isDone(1+4*count+2, output...)
		if got := impl.WalkRun(sums, inputs[:count]); !sameOutcome(got, want) {
			t.Errorf("WalkRun of %d inputs is %v, not %v", count, got, want)
		}
		if s := impl.WalkState(sums, inputs[:count], impl.WalkMaxSteps); s.Used != count || s.Kind != impl.RnDone {
			t.Errorf("WalkState of %d inputs is %v", count, s)
		}
	}
	for _, text := range []string{sums, "func main() { }", "func main() { stop; }", "func main() { print 1 / 0; }", everyDeed} {
		for _, count := range []int{101, 102, 200} {
			checkNoWalk(t, text, inputs[:count])
		}
	}
}

// checkNoWalk asks for nothing, whatever steps are told.
func checkNoWalk(t *testing.T, text string, inputs []int) {
	t.Helper()
	for _, steps := range []int{math.MinInt, -1, 0, 1, impl.WalkMaxSteps, impl.WalkMaxSteps + 1} {
		checkState(t, text, inputs, steps, impl.State{})
	}
	if got := impl.WalkRun(text, inputs); !sameOutcome(got, impl.Outcome{}) {
		t.Errorf("WalkRun(%.200q) with %d inputs is %v", text, len(inputs), got)
	}
}

func TestWalkNotTaken(t *testing.T) {
	for _, text := range notTaken() {
		for _, inputs := range [][]int{nil, {1, 2}, make([]int, 100), make([]int, 101)} {
			checkNoWalk(t, text, inputs)
		}
	}
}
