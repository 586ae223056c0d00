package tests

import (
	"math"
	"slices"
	"strconv"
	"strings"
	"testing"

	"loop.example/sedge/impl"
)

// edgeText is an edge: its From and To, its kind, its Node if it has one, and its Arg if it is 1, or more, or of a
// kind that has one.
func edgeText(e impl.Edge) string {
	text := strconv.Itoa(e.From) + "-" + strconv.Itoa(e.To) + " " + edgeKinds()[e.Kind]
	if e.Node != -1 {
		text += " " + strconv.Itoa(e.Node)
	}
	if e.Arg != 0 || slices.Contains([]int{impl.FlGuard, impl.FlTest, impl.FlCall}, e.Kind) {
		text += "=" + strconv.Itoa(e.Arg)
	}
	return text
}

// flowText is a flow: the owner of each point, the entries, the heads, and the edges.
func flowText(f impl.Flow) string {
	var owners, entries, heads, edges []string
	for _, fn := range f.Owner {
		owners = append(owners, strconv.Itoa(fn))
	}
	for _, point := range f.Entry {
		entries = append(entries, strconv.Itoa(point))
	}
	for point, head := range f.Head {
		if head {
			heads = append(heads, strconv.Itoa(point))
		}
	}
	for _, edge := range f.Edges {
		edges = append(edges, edgeText(edge))
	}
	return strings.Join(owners, "") + " | " + strings.Join(entries, " ") + " | " + strings.Join(heads, " ") + " | " + strings.Join(edges, ", ")
}

func sameFlow(a, b impl.Flow) bool {
	return slices.Equal(a.Owner, b.Owner) && slices.Equal(a.Entry, b.Entry) && slices.Equal(a.Head, b.Head) && slices.Equal(a.Edges, b.Edges)
}

// checkFlow is the flow of a text that must be taken; it is held against the second reading, and its promises are
// asked of it.
func checkFlow(t *testing.T, text string) impl.Flow {
	t.Helper()
	flow, fault := impl.FlowOf(text)
	judged, _ := judgeFlow(text)
	if fault != (impl.Fault{}) || !sameFlow(flow, judged) {
		t.Errorf("FlowOf(%.400q) is %v and\n%s\nbut it is judged\n%s", text, fault, flowText(flow), flowText(judged))
		return flow
	}
	checkPromise16(t, text, flow)
	checkPromise17(t, text, flow)
	written, _ := impl.ParsePrint(text)
	checkPromise18(t, text, written)
	for point := -1; point <= len(flow.Owner); point++ {
		checkOut(t, flow, point)
	}
	checkDeep(t, text)
	return flow
}

// checkOut holds FlowOut against the edges of a flow, gone through one by one.
func checkOut(t *testing.T, f impl.Flow, point int) {
	t.Helper()
	var want []int
	for place := range f.Edges {
		if f.Edges[place].From == point {
			want = append(want, place)
		}
	}
	if out := impl.FlowOut(f, point); !slices.Equal(out, want) {
		t.Errorf("FlowOut(%v, %d) is %v, not %v", f, point, out, want)
	}
}

// checkDeep is what FlowDeep tells, held against the second reading.
func checkDeep(t *testing.T, text string) []bool {
	t.Helper()
	deep := impl.FlowDeep(text)
	if judged := judgeDeep(text); !slices.Equal(deep, judged) {
		t.Errorf("FlowDeep(%.400q) is %v, but it is judged %v", text, deep, judged)
	}
	return deep
}

// flowCase is a text and its flow, worked out by hand.
type flowCase struct {
	text string
	want string
}

func checkFlows(t *testing.T, cases []flowCase) {
	t.Helper()
	for _, c := range cases {
		if got := flowText(checkFlow(t, c.text)); got != c.want {
			t.Errorf("FlowOf(%q) is\n%s\nnot\n%s", c.text, got, c.want)
		}
	}
}

// bodyFlow is a case of statements in a main that has the int x and the ref p: the first node in them is node 2, and
// the first point made for them is point 2. Ahead of the edges stand how many points there are, and the heads.
func bodyFlow(statements string, points int, heads, edges string) flowCase {
	return flowCase{
		"func main() { var x; ref p; " + statements + " } array a[4];",
		strings.Repeat("0", points) + " | 0 | " + heads + " | " + edges + ", 1-1 return",
	}
}

func TestFlowConstants(t *testing.T) {
	kinds := []int{impl.FlSkip, impl.FlDo, impl.FlGuard, impl.FlFail, impl.FlCall, impl.FlReturn, impl.FlStop, impl.FlInit, impl.FlTest, impl.FlNext}
	if !slices.Equal(kinds, []int{1, 2, 3, 4, 5, 6, 7, 8, 9, 10}) {
		t.Error("kinds", kinds)
	}
}

// exampleFlow is that of the example of the document. Of add the nodes are 2 to 10, of main 11 to 49; the for is 22,
// the if 45.
const exampleFlow = "000111111111111 | 0 3 | 6 | 0-2 do 6, 2-2 return 8, 1-1 return, " +
	"3-6 init 22, 6-7 test 22=1, 6-5 test 22=0, 7-8 do 20, 8-6 next 22, 5-9 do 23, " +
	"9-13 guard 26=1, 9-12 guard 26=0, 13-11 guard 29=1, 13-12 guard 29=0, 11-14 do 33, 14-10 call 36=0, 12-10 do 43, 10-4 do 47, 4-4 return"

func TestFlowOfTheExample(t *testing.T) {
	checkFlows(t, []flowCase{{strings.ReplaceAll(example, "@", ""), exampleFlow}})
}

func TestFlowPlainStatements(t *testing.T) {
	checkFlows(t, []flowCase{
		{"func main() { }", "00 | 0 |  | 0-1 skip, 1-1 return"},
		bodyFlow("", 2, "", "0-1 skip"),
		bodyFlow("x = 1;", 2, "", "0-1 do 3"),
		bodyFlow("x = -x;", 2, "", "0-1 do 5"),
		bodyFlow("p = null;", 2, "", "0-1 do 3"),
		bodyFlow("p = p;", 2, "", "0-1 do 3"),
		bodyFlow("p = &a[1];", 2, "", "0-1 do 4"),
		bodyFlow("p += x;", 2, "", "0-1 do 3"),
		bodyFlow("*p = 1;", 2, "", "0-1 do 3"),
		bodyFlow("a[x] = 2;", 2, "", "0-1 do 4"),
		bodyFlow("read x;", 2, "", "0-1 do 2"),
		bodyFlow("print *p;", 2, "", "0-1 do 3"),
		bodyFlow("x = 1; print x;", 3, "", "0-2 do 3, 2-1 do 5"),
		bodyFlow("read x; read x; read x;", 4, "", "0-2 do 2, 2-3 do 3, 3-1 do 4"),
	})
}

func TestFlowIf(t *testing.T) {
	checkFlows(t, []flowCase{
		bodyFlow("if x < 1 { }", 3, "", "0-2 guard 4=1, 0-1 guard 4=0, 2-1 skip"),
		bodyFlow("if x < 1 { } else { }", 4, "", "0-2 guard 4=1, 0-3 guard 4=0, 2-1 skip, 3-1 skip"),
		bodyFlow("if null p { read x; }", 3, "", "0-2 guard 2=1, 0-1 guard 2=0, 2-1 do 3"),
		bodyFlow("if null p { read x; } else { }", 4, "", "0-2 guard 2=1, 0-3 guard 2=0, 2-1 do 3, 3-1 skip"),
		bodyFlow("if null p { } else { read x; }", 4, "", "0-2 guard 2=1, 0-3 guard 2=0, 2-1 skip, 3-1 do 4"),
		bodyFlow("if null p { read x; } stop;", 4, "", "0-3 guard 2=1, 0-2 guard 2=0, 3-2 do 3, 2-2 stop 6"),
		bodyFlow("if null p { read x; } else { print x; } print 1;", 5, "", "0-3 guard 2=1, 0-4 guard 2=0, 3-2 do 3, 4-2 do 6, 2-1 do 10"),
		bodyFlow("read x; if null p { }", 4, "", "0-2 do 2, 2-3 guard 3=1, 2-1 guard 3=0, 3-1 skip"),
		bodyFlow("read x; if null p { } else { } read x;", 6, "", "0-2 do 2, 2-4 guard 3=1, 2-5 guard 3=0, 4-3 skip, 5-3 skip, 3-1 do 7"),
		bodyFlow("if null p { read x; read x; } else { read x; read x; read x; }", 7, "",
			"0-2 guard 2=1, 0-3 guard 2=0, 2-4 do 3, 4-1 do 4, 3-5 do 6, 5-6 do 7, 6-1 do 8"),
		bodyFlow("if null p { if x < 1 { } else { read x; } }", 5, "",
			"0-2 guard 2=1, 0-1 guard 2=0, 2-3 guard 5=1, 2-4 guard 5=0, 3-1 skip, 4-1 do 7"),
		bodyFlow("if null p { } else { if x < 1 { } }", 5, "",
			"0-2 guard 2=1, 0-3 guard 2=0, 2-1 skip, 3-4 guard 6=1, 3-1 guard 6=0, 4-1 skip"),
	})
}

func TestFlowWhile(t *testing.T) {
	checkFlows(t, []flowCase{
		bodyFlow("while x < 3 { }", 4, "2", "0-2 skip, 2-3 guard 4=1, 2-1 guard 4=0, 3-2 skip"),
		bodyFlow("while x < 3 { x = x + 1; } print x;", 5, "3", "0-3 skip, 3-4 guard 4=1, 3-2 guard 4=0, 4-3 do 8, 2-1 do 12"),
		bodyFlow("while null p { read x; print x; } stop;", 6, "3", "0-3 skip, 3-4 guard 2=1, 3-2 guard 2=0, 4-5 do 3, 5-3 do 5, 2-2 stop 8"),
		bodyFlow("while null p { } while null p { }", 7, "3 5",
			"0-3 skip, 3-4 guard 2=1, 3-2 guard 2=0, 4-3 skip, 2-5 skip, 5-6 guard 5=1, 5-1 guard 5=0, 6-5 skip"),
		bodyFlow("while null p and x < 1 { }", 5, "2", "0-2 skip, 2-4 guard 2=1, 2-1 guard 2=0, 4-3 guard 5=1, 4-1 guard 5=0, 3-2 skip"),
		bodyFlow("while not null p { }", 4, "2", "0-2 skip, 2-1 guard 2=1, 2-3 guard 2=0, 3-2 skip"),
	})
}

func TestFlowFor(t *testing.T) {
	checkFlows(t, []flowCase{
		bodyFlow("for x = 0 .. 3 { }", 5, "2", "0-2 init 5, 2-3 test 5=1, 2-1 test 5=0, 3-4 skip, 4-2 next 5"),
		bodyFlow("for x = 0 .. 3 { print x; }", 5, "2", "0-2 init 7, 2-3 test 7=1, 2-1 test 7=0, 3-4 do 5, 4-2 next 7"),
		bodyFlow("for x = x .. x + 1 { print x; print 2; } print x;", 7, "3",
			"0-3 init 11, 3-4 test 11=1, 3-2 test 11=0, 4-6 do 7, 6-5 do 9, 5-3 next 11, 2-1 do 13"),
		bodyFlow("for x = 0 .. 3 { } assert x == 3;", 7, "3",
			"0-3 init 5, 3-4 test 5=1, 3-2 test 5=0, 4-5 skip, 5-3 next 5, 2-1 guard 8=1, 2-6 guard 8=0, 6-6 fail 9"),
	})
}

func TestFlowLoopsWithinLoops(t *testing.T) {
	checkFlows(t, []flowCase{
		bodyFlow("while null p { while x < 1 { read x; } }", 6, "2 4",
			"0-2 skip, 2-3 guard 2=1, 2-1 guard 2=0, 3-4 skip, 4-5 guard 5=1, 4-2 guard 5=0, 5-4 do 6"),
		bodyFlow("for x = 0 .. 2 { while null p { stop; } }", 7, "2 5",
			"0-2 init 9, 2-3 test 9=1, 2-1 test 9=0, 3-5 skip, 5-6 guard 4=1, 5-4 guard 4=0, 6-6 stop 5, 4-2 next 9"),
		bodyFlow("while null p { for x = 0 .. 2 { } read x; }", 8, "2 5",
			"0-2 skip, 2-3 guard 2=1, 2-1 guard 2=0, 3-5 init 6, 5-6 test 6=1, 5-4 test 6=0, 6-7 skip, 7-5 next 6, 4-2 do 7"),
		{"func main() { var i, j; for i = 0 .. 2 { for j = i .. 2 { print j; } } }",
			"00000000 | 0 | 2 5 | 0-2 init 11, 2-3 test 11=1, 2-1 test 11=0, 3-5 init 9, 5-6 test 9=1, 5-4 test 9=0, 6-7 do 7, 7-5 next 9, 4-2 next 11, 1-1 return"},
		bodyFlow("while null p { if x < 1 { read x; } else { stop; } }", 6, "2",
			"0-2 skip, 2-3 guard 2=1, 2-1 guard 2=0, 3-4 guard 5=1, 3-5 guard 5=0, 4-2 do 6, 5-5 stop 8"),
		bodyFlow("while null p { if x < 1 { } }", 5, "2",
			"0-2 skip, 2-3 guard 2=1, 2-1 guard 2=0, 3-4 guard 5=1, 3-2 guard 5=0, 4-2 skip"),
		bodyFlow("if null p { while null p { } }", 5, "3",
			"0-2 guard 2=1, 0-1 guard 2=0, 2-3 skip, 3-4 guard 3=1, 3-1 guard 3=0, 4-3 skip"),
	})
}

// condFlow is a case of a condition that leads from 0, to 2 and 3; the first point made for it is point 4.
func condFlow(condition string, points int, edges string) flowCase {
	return bodyFlow("if "+condition+" { } else { }", points, "", edges+", 2-1 skip, 3-1 skip")
}

func TestFlowConditions(t *testing.T) {
	checkFlows(t, []flowCase{
		condFlow("null p", 4, "0-2 guard 2=1, 0-3 guard 2=0"),
		condFlow("x + 1 >= a[x]", 4, "0-2 guard 7=1, 0-3 guard 7=0"),
		condFlow("not null p", 4, "0-3 guard 2=1, 0-2 guard 2=0"),
		condFlow("not not null p", 4, "0-2 guard 2=1, 0-3 guard 2=0"),
		condFlow("not not not null p", 4, "0-3 guard 2=1, 0-2 guard 2=0"),
		condFlow("null p and null p", 5, "0-4 guard 2=1, 0-3 guard 2=0, 4-2 guard 3=1, 4-3 guard 3=0"),
		condFlow("null p or null p", 5, "0-2 guard 2=1, 0-4 guard 2=0, 4-2 guard 3=1, 4-3 guard 3=0"),
		condFlow("not [null p and null p]", 5, "0-4 guard 2=1, 0-2 guard 2=0, 4-3 guard 3=1, 4-2 guard 3=0"),
		condFlow("not [null p or null p]", 5, "0-3 guard 2=1, 0-4 guard 2=0, 4-3 guard 3=1, 4-2 guard 3=0"),
		condFlow("not not [null p or null p]", 5, "0-2 guard 2=1, 0-4 guard 2=0, 4-2 guard 3=1, 4-3 guard 3=0"),
		condFlow("not null p and not null p", 5, "0-3 guard 2=1, 0-4 guard 2=0, 4-3 guard 4=1, 4-2 guard 4=0"),
		condFlow("not null p or not null p", 5, "0-4 guard 2=1, 0-2 guard 2=0, 4-3 guard 4=1, 4-2 guard 4=0"),
		condFlow("[null p or null p] and null p", 6, "0-4 guard 2=1, 0-5 guard 2=0, 5-4 guard 3=1, 5-3 guard 3=0, 4-2 guard 5=1, 4-3 guard 5=0"),
		condFlow("null p and [null p or null p]", 6, "0-4 guard 2=1, 0-3 guard 2=0, 4-2 guard 3=1, 4-5 guard 3=0, 5-2 guard 4=1, 5-3 guard 4=0"),
		condFlow("null p and null p or null p", 6, "0-5 guard 2=1, 0-4 guard 2=0, 5-2 guard 3=1, 5-4 guard 3=0, 4-2 guard 5=1, 4-3 guard 5=0"),
		condFlow("null p or null p and null p", 6, "0-2 guard 2=1, 0-4 guard 2=0, 4-5 guard 3=1, 4-3 guard 3=0, 5-2 guard 4=1, 5-3 guard 4=0"),
		condFlow("null p and null p and null p", 6, "0-5 guard 2=1, 0-3 guard 2=0, 5-4 guard 3=1, 5-3 guard 3=0, 4-2 guard 5=1, 4-3 guard 5=0"),
		condFlow("null p or [null p or null p]", 6, "0-2 guard 2=1, 0-4 guard 2=0, 4-2 guard 3=1, 4-5 guard 3=0, 5-2 guard 4=1, 5-3 guard 4=0"),
		condFlow("not [not null p and [null p or null p]]", 6,
			"0-2 guard 2=1, 0-4 guard 2=0, 4-3 guard 4=1, 4-5 guard 4=0, 5-3 guard 5=1, 5-2 guard 5=0"),
	})
}

func TestFlowAssert(t *testing.T) {
	checkFlows(t, []flowCase{
		bodyFlow("assert null p;", 3, "", "0-1 guard 2=1, 0-2 guard 2=0, 2-2 fail 3"),
		bodyFlow("assert x < 1 or null p; read x;", 5, "", "0-2 guard 4=1, 0-4 guard 4=0, 4-2 guard 5=1, 4-3 guard 5=0, 3-3 fail 7, 2-1 do 8"),
		bodyFlow("assert not [null p and x < 1];", 4, "", "0-3 guard 2=1, 0-1 guard 2=0, 3-2 guard 5=1, 3-1 guard 5=0, 2-2 fail 8"),
		bodyFlow("assert null p; assert not null p;", 5, "", "0-2 guard 2=1, 0-3 guard 2=0, 3-3 fail 3, 2-4 guard 4=1, 2-1 guard 4=0, 4-4 fail 6"),
		bodyFlow("while null p { assert null p; }", 5, "2", "0-2 skip, 2-3 guard 2=1, 2-1 guard 2=0, 3-2 guard 3=1, 3-4 guard 3=0, 4-4 fail 4"),
	})
}

// Points behind a return or a stop are made all the same, though nothing leads to them.
func TestFlowReturnAndStop(t *testing.T) {
	checkFlows(t, []flowCase{
		bodyFlow("return x;", 2, "", "0-0 return 3"),
		bodyFlow("stop;", 2, "", "0-0 stop 2"),
		bodyFlow("return 1; stop; read x;", 4, "", "0-0 return 3, 2-2 stop 4, 3-1 do 5"),
		bodyFlow("stop; return 1;", 3, "", "0-0 stop 2, 2-2 return 4"),
		bodyFlow("if null p { return 1; } else { return 2; }", 4, "", "0-2 guard 2=1, 0-3 guard 2=0, 2-2 return 4, 3-3 return 7"),
		bodyFlow("if null p { stop; } read x;", 4, "", "0-3 guard 2=1, 0-2 guard 2=0, 3-3 stop 3, 2-1 do 6"),
		bodyFlow("while null p { stop; read x; }", 5, "2", "0-2 skip, 2-3 guard 2=1, 2-1 guard 2=0, 3-3 stop 3, 4-2 do 4"),
		bodyFlow("for x = 0 .. 1 { return x; }", 5, "2", "0-2 init 7, 2-3 test 7=1, 2-1 test 7=0, 3-3 return 5, 4-2 next 7"),
		bodyFlow("return 1; if null p { } while null p { }", 7, "5",
			"0-0 return 3, 2-4 guard 4=1, 2-3 guard 4=0, 4-3 skip, 3-5 skip, 5-6 guard 7=1, 5-1 guard 7=0, 6-5 skip"),
	})
}

// Each function has points of its own; a call tells the place of the function that is called, among functions alone.
func TestFlowFunctionsAndCalls(t *testing.T) {
	checkFlows(t, []flowCase{
		{"func f() { } func main() { } func k() { }", "001122 | 0 2 4 |  | 0-1 skip, 1-1 return, 2-3 skip, 3-3 return, 4-5 skip, 5-5 return"},
		{"func f() { } func main() { var x; x = k(1, x); x = main(); x = f(); } func k(a, b) { return a; }",
			"00111122 | 0 2 6 |  | 0-1 skip, 1-1 return, 2-4 call 6=2, 4-5 call 8=1, 5-3 call 10=0, 3-3 return, 6-6 return 16, 7-7 return"},
		{"var g; func main() { g = late(); } array a[1]; func late() { while g < 1 { } }",
			"001111 | 0 2 | 4 | 0-1 call 2=1, 1-1 return, 2-4 skip, 4-5 guard 8=1, 4-3 guard 8=0, 5-4 skip, 3-3 return"},
		{"func f(x) { for x = 0 .. x { x1 = f(x); } } var x1; func main() { if x1 == 0 { x1 = f(1); } else { stop; } }",
			"000001111 | 0 5 | 2 | 0-2 init 7, 2-3 test 7=1, 2-1 test 7=0, 3-4 call 5=0, 4-2 next 7, 1-1 return, " +
				"5-7 guard 13=1, 5-8 guard 13=0, 7-6 call 16=0, 8-8 stop 18, 6-6 return"},
	})
}

// Long texts: as many statements, or parts of a condition, as tokens allow, and blocks as deep as may be.
func TestFlowOfLargePrograms(t *testing.T) {
	for _, c := range []struct {
		statements    string
		points, edges int
	}{
		{strings.Repeat("x=1;", 165), 2 + 164, 165 + 1},
		{"assert null p" + strings.Repeat(" and null p", 200) + ";", 2 + 1 + 200, 2*201 + 1 + 1},
		{strings.Repeat("if null p{", 9) + strings.Repeat("}", 9), 2 + 9, 2*9 + 1 + 1},
		{strings.Repeat("while null p{", 9) + strings.Repeat("}", 9), 2 + 2*9, 3*9 + 1 + 1},
		{strings.Repeat("if null p{}", 130), 2 + 129 + 130, 3*130 + 1},
	} {
		flow := checkFlow(t, bodyFlow(c.statements, 0, "", "").text)
		if len(flow.Owner) != c.points || len(flow.Edges) != c.edges {
			t.Errorf("%.40q has %d points and %d edges, not %d and %d", c.statements, len(flow.Owner), len(flow.Edges), c.points, c.edges)
		}
	}
}

// checkNoFlow holds what is told of a text that is not taken against its fault.
func checkNoFlow(t *testing.T, text string, want impl.Fault) {
	t.Helper()
	flow, fault := impl.FlowOf(text)
	if fault != want || !sameFlow(flow, impl.Flow{}) {
		t.Errorf("FlowOf(%.300q) is %v with %s, not %v", text, fault, flowText(flow), want)
	}
	if deep := impl.FlowDeep(text); len(deep) != 0 {
		t.Errorf("FlowDeep(%.300q) is %v", text, deep)
	}
}

func TestFlowNotTaken(t *testing.T) {
	checkNoFlow(t, "func main() { }"+strings.Repeat(" ", impl.SrcMaxText), impl.Fault{Code: impl.SrLong})
	for _, c := range []struct {
		code   int
		marked string
	}{
		{impl.SrByte, "func main() { @! }"}, {impl.SrByte, "@\x00"}, {impl.SrName, "func main() { @abcdefghi = 1; }"}, {impl.SrNumber, "func main() { print @01; }"},
		{impl.SrMany, "func main() { var x; " + strings.Repeat("stop;", 346) + "@}"}, {impl.SrSyntax, "func main() {@"}, {impl.SrSyntax, "func main() { } @}"},
		{impl.SrDeep, "func main() { print " + strings.Repeat("(", 10) + "@1"}, {impl.SrLimit, "array @a[0]; func main() { }"}, {impl.SrTwice, "func main() { } func @main() { }"},
		{impl.SrMain, "@"}, {impl.SrMain, "@func f() { }"}, {impl.SrMain, "@func main(x) { }"}, {impl.SrNone, "func main() { @x = 1; }"},
		{impl.SrNone, "func f() { f1 = 1; } func main() { var x; x = f(); } func k() { @y = 1; } var f1;"}, {impl.SrKind, "func main() { var i; i = @null; }"},
		{impl.SrKind, "func main() { var i; for i = 0 .. 3 { @i = 1; } }"}, {impl.SrArgs, "func main() { var x; x = @main(1); }"},
	} {
		text, at := cutMark(t, c.marked)
		checkNoFlow(t, text, impl.Fault{Code: c.code, At: at})
	}
}

func TestFlowOut(t *testing.T) {
	loop, _ := impl.FlowOf(bodyFlow("while null p { read x; } print x;", 0, "", "").text)
	edges := func(from ...int) impl.Flow {
		f := impl.Flow{Owner: []int{7}, Entry: []int{-1, 99}, Head: []bool{true, true}}
		for i, point := range from {
			f.Edges = append(f.Edges, impl.Edge{From: point, To: -i, Kind: 11 * i, Node: 1000, Arg: -1})
		}
		return f
	}
	loose := edges(3, 1, 3, -2, 7, 1, 3, math.MaxInt, math.MinInt, -2)
	for _, c := range []struct {
		flow  impl.Flow
		point int
		want  []int
	}{
		{loop, 0, []int{0}}, {loop, 1, []int{5}}, {loop, 2, []int{4}}, {loop, 3, []int{1, 2}}, {loop, 4, []int{3}}, {loop, 5, nil}, {loop, -1, nil}, {loop, math.MaxInt, nil}, {loop, math.MinInt, nil},
		{impl.Flow{}, 0, nil}, {impl.Flow{}, -1, nil}, {impl.Flow{}, 1, nil}, {edges(), 0, nil}, {edges(0), 0, []int{0}}, {edges(1), 0, nil}, {edges(0, 0, 0), 0, []int{0, 1, 2}},
		{loose, 3, []int{0, 2, 6}}, {loose, 1, []int{1, 5}}, {loose, 7, []int{4}}, {loose, 0, nil}, {loose, 2, nil}, {loose, -1, nil}, {loose, 8, nil},
		{loose, -2, []int{3, 9}}, {loose, math.MaxInt, []int{7}}, {loose, math.MinInt, []int{8}},
	} {
		if out := impl.FlowOut(c.flow, c.point); !slices.Equal(out, c.want) {
			t.Errorf("FlowOut(%v, %d) is %v, not %v", c.flow, c.point, out, c.want)
		}
	}
}

// calling is a program of which each function, named by a letter, calls those whose letters stand behind its own.
func calling(functions ...string) string {
	text := "var x; func main() { "
	for _, f := range functions {
		if f[0] != 'm' {
			text += "} func " + f[:1] + "() { "
		}
		for _, called := range f[1:] {
			text += "x = " + strings.ReplaceAll(string(called), "m", "main") + "(); "
		}
	}
	return text + "}"
}

func TestFlowDeep(t *testing.T) {
	for _, c := range []struct {
		text string
		want string
	}{
		{"func main() { }", "-"}, {calling("m", "a", "b"), "---"}, {calling("mm"), "d"}, {calling("mabc", "ab", "bc", "c"), "----"},
		{calling("m", "aa"), "-d"}, {calling("ma", "aa"), "-d"}, {calling("ma", "ab", "ba"), "-dd"}, {calling("m", "ab", "ba"), "-dd"}, {calling("ma", "am"), "dd"},
		// Of those that call deep ones none is deep by that, those that deep ones call are.
		{calling("ma", "ab", "bbc", "c"), "--dd"}, {calling("mabc", "ab", "bc", "cd", "db", "e"), "--ddd-"}, {calling("mab", "aa", "bb"), "-dd"}, {calling("mb", "aab", "b"), "-dd"},
		{calling("mad", "ab", "bcb", "cd", "de", "e"), "--dddd"}, {calling("ma", "ab", "bc", "cd", "de", "ea"), "-ddddd"}, {calling("ma", "ab", "bc", "cd", "de", "em"), "dddddd"},
		{calling("ma", "ab", "bc", "cd", "de", "e"), "------"}, {calling("me", "ab", "bac", "c", "dd", "e"), "-dddd-"}, {calling("mm", "a", "ba"), "d--"}, {calling("mma", "ab", "b"), "ddd"},
		// A function that is called twice, or by two ways, is not deep by that.
		{calling("maab", "ac", "bc", "c"), "----"},
		// A call counts wherever it stands.
		{"func main() { var x; stop; x = main(); }", "d"}, {"func main() { var x; return 1; while x < 1 { x = main(); } }", "d"},
		{"func f() { var x; if 1 > 2 { x = f(); } } func main() { }", "d-"}, {"func f() { var x; while 1 < 2 { } for x = 0 .. 0 { g = f(); } } var g; func main() { }", "d-"},
		{"func f() { var x; if 1 < 2 { } else { x = k(); } } func k() { var x; assert 1 > 2; x = f(); } func main() { }", "dd-"},
		{"func a() { return 1; b1 = b(); } var b1; func b() { stop; b1 = b(); b1 = c(); } func c() { } func main() { b1 = a(); }", "-dd-"},
	} {
		got := ""
		for _, deep := range checkDeep(t, c.text) {
			got += map[bool]string{true: "d", false: "-"}[deep]
		}
		if got != c.want {
			t.Errorf("FlowDeep(%q) is %s, not %s", c.text, got, c.want)
		}
	}
}
