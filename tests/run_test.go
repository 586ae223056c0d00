package tests

import (
	"math"
	"slices"
	"strconv"
	"strings"
	"testing"

	"loop.example/sedge/impl"
)

func isMore(steps int, output ...int) impl.Outcome {
	return impl.Outcome{Kind: impl.RnMore, Steps: steps, Output: output}
}

func isDone(steps int, output ...int) impl.Outcome {
	return impl.Outcome{Kind: impl.RnDone, Steps: steps, Output: output}
}

// isFault is a fault, but for its place.
func isFault(fault, steps int, output ...int) impl.Outcome {
	return impl.Outcome{Kind: impl.RnFault, Fault: fault, Steps: steps, Output: output}
}

func sameOutcome(a, b impl.Outcome) bool {
	return a.Kind == b.Kind && a.Fault == b.Fault && a.At == b.At && a.Steps == b.Steps && slices.Equal(a.Output, b.Output)
}

// checkSteps holds a run against what it must tell, and against the second reading. The place of a fault is marked in
// the text.
func checkSteps(t *testing.T, marked string, inputs []int, steps int, want impl.Outcome) {
	t.Helper()
	text := strings.ReplaceAll(marked, "@", "")
	if want.Kind == impl.RnFault {
		text, want.At = cutMark(t, marked)
	}
	if got := impl.TreeRun(text, inputs, steps); !sameOutcome(got, want) {
		t.Errorf("TreeRun(%.400q, %v, %d) is %v, not %v", text, inputs, steps, got, want)
	}
	if judged := judgeRun(text, inputs, steps); !sameOutcome(judged, want) {
		t.Errorf("%.400q with %v and %d steps is judged %v, not %v", text, inputs, steps, judged, want)
	}
}

// checkRun does so of a run that ends, with just the steps that it needs, with more, and with fewer; and all its
// promises are asked of it.
func checkRun(t *testing.T, marked string, inputs []int, want impl.Outcome) {
	t.Helper()
	checkSteps(t, marked, inputs, impl.RunMaxSteps, want)
	checkSteps(t, marked, inputs, want.Steps, want)
	checkSteps(t, marked, inputs, want.Steps+1, want)
	text := strings.ReplaceAll(marked, "@", "")
	if want.Steps > 0 {
		fewer := impl.TreeRun(text, inputs, want.Steps-1)
		if fewer.Kind != impl.RnMore || fewer.Steps != want.Steps-1 {
			t.Errorf("TreeRun(%.400q, %v, %d) is %v", text, inputs, want.Steps-1, fewer)
		}
	}
	checkRunPromises(t, newDice(), text, inputs)
}

// checkBody does so of statements in the main of inNamed.
func checkBody(t *testing.T, marked string, want impl.Outcome) {
	t.Helper()
	checkRun(t, inNamed(marked), nil, want)
}

func TestRunConstants(t *testing.T) {
	limits := []int{impl.RunMaxSteps, impl.RunMaxInputs, impl.RunMaxDepth}
	kinds := []int{impl.RnMore, impl.RnDone, impl.RnFault}
	if !slices.Equal(limits, []int{5000, 100, 12}) || !slices.Equal(kinds, []int{1, 2, 3}) {
		t.Error("the constants are", limits, kinds)
	}
}

// everyDeed is a program that does every kind of statement, term and condition.
const everyDeed = `array a[4]; array b[1];
var g;
func add(x, y) { g = g + 1; return x + y; }
func main() {
var i, n;
ref p, q;
for i = 0 .. 4 { a[i] = i * 3; }
p = &a[1]; q = p; p += 2;
print *p;
*q = *q - 10;
print a[1];
q = null;
if null q and not null p { print 1; } else { print 2; }
while g < 2 { n = add(n, a[g + 2]); }
print n;
read n;
print n;
assert n == 5 or b[0] != 0;
if n >= 5 { stop; }
print 99;
}
`

func TestRunEveryKind(t *testing.T) {
	met := map[int]int{}
	nodes, _ := impl.ParseTree(everyDeed)
	for _, node := range nodes {
		met[node.Kind]++
	}
	for kind := impl.NdProgram; kind <= impl.NdIsNull; kind++ {
		if met[kind] == 0 {
			t.Errorf("no node is a %s", kindNames()[kind])
		}
	}
	checkRun(t, everyDeed, []int{1<<32 + 5, 6}, isDone(35, 9, -7, 1, 15, 5))
	checkRun(t, everyDeed, nil, isDone(31, 9, -7, 1, 15))
	checkRun(t, strings.Replace(everyDeed, "assert", "@assert", 1), []int{4}, isFault(impl.FaAssert, 33, 9, -7, 1, 15, 4))
}

// example is the example of the document; its division is marked.
const example = `array a[10];
var sum;
func add(x) {
sum = sum + x;
return sum;
}
func main() {
var i, n;
ref p;
for i = 0 .. 10 {
a[i] = i * 3;
}
read n;
if n >= 0 and n < 10 {
p = &a[n];
n = add(*p);
} else {
n = 12 @/ (n - n);
}
print n;
}
`

func TestRunOfTheExample(t *testing.T) {
	unmarked := strings.ReplaceAll(example, "@", "")
	checkRun(t, unmarked, nil, isDone(23))
	checkRun(t, unmarked, []int{0}, isDone(29, 0))
	checkRun(t, unmarked, []int{9, 4}, isDone(29, 27))
	checkRun(t, example, []int{10}, isFault(impl.FaZero, 25))
	checkRun(t, example, []int{-1}, isFault(impl.FaZero, 25))
}

// notTaken are texts that NameTable does not take.
func notTaken() []string {
	return []string{
		"", " ", "var g;", "func f() { }", "func main(x) { }", "func main() {", "func main() { x = 1; }", "func main() { } }", "func main() { print 01; }",
		"func main() { } !", "func main() { abcdefghi = 1; }", "func main() { var i; i = null; }", "func main() { print 1; print z; }", "array a[0]; func main() { }",
		"array a[65]; func main() { }", "func main() { } func main() { }", "func main() { var i; for i = 0 .. 3 { i = 1; } }", "func main() { var x; x = main(1); }",
		"func main() { }" + strings.Repeat(" ", impl.SrcMaxText), "\x00", "func main() { print " + strings.Repeat("(", 10) + "1" + strings.Repeat(")", 10) + "; }",
	}
}

func TestRunNotTaken(t *testing.T) {
	for _, text := range notTaken() {
		for _, inputs := range [][]int{nil, {1, 2}, make([]int, 100), make([]int, 101)} {
			for _, steps := range []int{-1, 0, 1, 5000, 5001} {
				checkSteps(t, text, inputs, steps, impl.Outcome{})
			}
		}
	}
}

func TestRunInputsLimit(t *testing.T) {
	const sums = "func main() { var i, sum; while 1 < 2 { read i; sum = sum + i; print sum; } }"
	inputs := make([]int, 200)
	var output []int
	for i := range 100 {
		inputs[i] = 1
		output = append(output, i+1)
	}
	checkRun(t, sums, inputs[:100], isDone(403, output...))
	checkRun(t, sums, inputs[:99], isDone(399, output[:99]...))
	checkRun(t, "func main() { }", inputs[:100], isDone(0))
	for _, text := range []string{sums, "func main() { }", "func main() { stop; }", "func main() { print 1 / 0; }", everyDeed} {
		for _, count := range []int{101, 102, 200} {
			for _, steps := range []int{-1, 0, 1, 5000} {
				checkSteps(t, text, inputs[:count], steps, impl.Outcome{})
			}
		}
	}
}

func TestRunStepsLimit(t *testing.T) {
	counts := func(bound string) string { return "func main() { var i; for i = 0 .. " + bound + " { } }" }
	checkRun(t, counts("4998"), nil, isDone(5000))
	checkRun(t, counts("4997"), nil, isDone(4999))
	for _, steps := range []int{5000, 5001, 5002, 1 << 32, math.MaxInt} {
		checkSteps(t, counts("4998"), nil, steps, isDone(5000))
		checkSteps(t, counts("4999"), nil, steps, isMore(5000))
		checkSteps(t, "func main() { while 1 < 2 { } }", nil, steps, isMore(5000))
		checkSteps(t, "func main() { var i; for i = 0 .. 2499 { print i; } }", nil, steps, isDone(5000, upTo(2499)...))
		checkSteps(t, "func main() { var i; for i = 0 .. 2500 { print i; } }", nil, steps, isMore(5000, upTo(2499)...))
	}
	checkSteps(t, counts("4998"), nil, 4999, isMore(4999))
	for _, steps := range []int{0, -1, -2, -5000, -1 << 32, math.MinInt} {
		checkSteps(t, "func main() { }", nil, steps, isDone(0))
		checkSteps(t, "func main() { stop; }", nil, steps, isMore(0))
		checkSteps(t, "func main() { print 1; }", nil, steps, isMore(0))
		checkSteps(t, "func main() { print 1 / 0; }", nil, steps, isMore(0))
		checkSteps(t, everyDeed, nil, steps, isMore(0))
	}
}

// upTo are the numbers from 0 to n less 1.
func upTo(n int) []int {
	var list []int
	for i := range n {
		list = append(list, i)
	}
	return list
}

// Each statement takes a step when it begins, and a loop one more ahead of each test: with one fewer than they need a
// run would go on.
func TestRunStepsOfStatements(t *testing.T) {
	for _, c := range []struct {
		body  string
		steps int
	}{
		{"", 0}, {"i = 1;", 1}, {"p = null;", 1}, {"p = q;", 1}, {"p = &a[3];", 1}, {"i = f();", 2}, {"i = k(1, 2);", 2},
		{"p = &a[0]; p += 3;", 2}, {"a[0] = 1;", 1}, {"p = &a[0]; *p = 1;", 2}, {"assert i == 0;", 1},
		{"stop; i = 1;", 1}, {"return 1; i = 1;", 1}, {"read i; i = 1;", 1}, {"stop;", 1}, {"return i;", 1},
		{"if i == 0 { }", 1}, {"if i != 0 { }", 1}, {"if i == 0 { i = 1; }", 2}, {"if i != 0 { i = 1; }", 1},
		{"if i == 0 { } else { i = 1; }", 1}, {"if i != 0 { } else { i = 1; }", 2}, {"if i != 0 { i = 1; i = 2; } else { }", 1},
		{"while i > 0 { }", 2}, {"while i < 1 { i = 1; }", 4}, {"while i < 2 { i = i + 1; }", 6}, {"while i == 0 { stop; }", 3},
		{"while i == 0 { return 0; }", 3}, {"while i < 2 { i = i + 1; while j < i { j = j + 1; } }", 14},
		{"for i = 0 .. 0 { }", 2}, {"for i = 0 .. 1 { }", 3}, {"for i = 0 .. 2 { }", 4}, {"for i = 0 .. 2 { j = i; }", 6},
		{"for i = 0 .. 2 { for j = 0 .. 2 { } }", 12}, {"for i = 5 .. 3 { j = i; }", 2}, {"for i = 0 .. 2 { stop; }", 3},
		{"if i == 0 { while i == 0 { i = 1; } }", 5}, {"for i = 0 .. 2 { j = f(); }", 8}, {"i = f(); j = f();", 4},
	} {
		checkBody(t, c.body, isDone(c.steps))
		for steps := range c.steps {
			checkSteps(t, inNamed(c.body), nil, steps, isMore(steps))
		}
	}
}

// What is done with the last step is done; what would want one more is not.
func TestRunStepsThatEndThere(t *testing.T) {
	for _, c := range []struct {
		marked string
		steps  int
		want   impl.Outcome
	}{
		{"print 1; print 2;", 0, isMore(0)}, {"print 1; print 2;", 1, isMore(1, 1)}, {"print 1; print 2;", 2, isDone(2, 1, 2)},
		{"print 1 @/ 0;", 0, isMore(0)}, {"print 1 @/ 0;", 1, isFault(impl.FaZero, 1)}, {"@assert 1 > 2;", 0, isMore(0)},
		{"while 1 @/ 0 == 0 { }", 1, isMore(1)}, {"while 1 @/ 0 == 0 { }", 2, isFault(impl.FaZero, 2)},
		{"for i = 1 @/ 0 .. 2 { }", 0, isMore(0)}, {"for i = 1 @/ 0 .. 2 { }", 1, isFault(impl.FaZero, 1)},
		{"for i = 0 .. 1 @/ 0 { }", 1, isMore(1)}, {"for i = 0 .. 1 @/ 0 { }", 2, isFault(impl.FaZero, 2)},
		{"for i = 0 .. 1 { print i; }", 2, isMore(2)}, {"for i = 0 .. 1 { print i; }", 3, isMore(3, 0)}, {"for i = 0 .. 1 { print i; }", 4, isDone(4, 0)},
		{"while i < 1 { i = 1; print i; }", 4, isMore(4, 1)}, {"while i < 1 { i = 1; print i; }", 5, isDone(5, 1)},
		{"if 1 @/ 0 == 0 { }", 0, isMore(0)}, {"if 1 @/ 0 == 0 { }", 1, isFault(impl.FaZero, 1)},
		{"i = f(); print i;", 1, isMore(1)}, {"i = f(); print i;", 2, isMore(2)}, {"i = f(); print i;", 3, isDone(3, 1)},
		{"i = k(1 @/ 0, 1);", 0, isMore(0)}, {"i = k(1 @/ 0, 1);", 1, isFault(impl.FaZero, 1)},
		{"read i;", 0, isMore(0)}, {"read i;", 1, isDone(1)}, {"stop;", 0, isMore(0)}, {"return 1 @/ 0;", 0, isMore(0)}, {"return 1 @/ 0;", 1, isFault(impl.FaZero, 1)},
		{"while 1 < 2 { }", 10, isMore(10)}, {"while 1 < 2 { print 3; }", 7, isMore(7, 3, 3, 3)}, {"while 1 < 2 { print 3; }", 6, isMore(6, 3, 3)},
		{"if 1 > 2 { } else { print 4; }", 1, isMore(1)}, {"if 1 > 2 { } else { print 4; }", 2, isDone(2, 4)},
	} {
		checkSteps(t, inNamed(c.marked), nil, c.steps, c.want)
	}
	checkSteps(t, "func e() { } func main() { var x; x = e(); }", nil, 1, isDone(1))
	checkSteps(t, "func e() { print 5; } func main() { var x; x = e(); }", nil, 1, isMore(1))
	checkSteps(t, "func e() { print 5; } func main() { var x; x = e(); }", nil, 2, isDone(2, 5))
}

func checkFaults(t *testing.T, fault int, marked ...string) {
	t.Helper()
	for _, body := range marked {
		text, _ := cutMark(t, inNamed(body))
		steps := judgeRun(text, nil, impl.RunMaxSteps).Steps
		checkBody(t, body, isFault(fault, steps))
	}
}

// Terms are reckoned from the left, all of them ahead of what has them; the first fault is told.
func TestRunOrderInTerms(t *testing.T) {
	checkFaults(t, impl.FaOver, "i = 2147483647 @+ 1;", "i = (2147483647 @+ 1) / 0;", "i = (2147483647 @+ 1) + (1 / 0);", "i = -2147483647 @- 2;", "i = 65536 @* 32768;",
		"i = 1 @<< 31;", "i = (-2147483647 - 1) @/ -1;", "i = @-(-2147483647 - 1);", "i = 0 * (2147483647 @+ 1);", "i = a[2147483647 @+ 1];")
	checkFaults(t, impl.FaZero, "i = 1 @/ 0;", "i = 1 @% i;", "i = (1 @/ 0) + (2147483647 + 1);", "i = (1 @/ 0) / 0;", "i = 1 + 2 * (3 @/ (4 - 4));",
		"i = 0 & 1 @/ 0;", "i = a[1 @/ 0];", "i = a[0] + a[1 @/ 0] + a[9];", "i = 1 @/ a[0];", "i = 1 @/ 0 / 0;", "i = -(1 @/ 0);", "i = 2147483647 + (1 @% 0);")
	checkFaults(t, impl.FaShift, "i = 1 @<< 32;", "i = 1 @>> 32;", "i = 1 @<< -1;", "i = 0 @>> -1;", "i = 2147483647 @<< 32;", "i = (1 + 1) / (1 @<< 32);", "i = 1 << (1 @<< 32);")
	checkFaults(t, impl.FaBounds, "i = @a[3];", "i = @a[-1];", "i = a[@a[3]];", "i = @a[a[0] - 1];", "i = @a[3] + 1 / 0;", "i = @b[1] / 0;", "i = a[2] + @a[3];",
		"i = @a[2147483647];", "i = @a[-2147483647 - 1];", "p = &a[3]; i = @*p;", "p = &a[3]; i = @*p + 1 / 0;", "i = a[@b[1 + a[1]]];")
	checkFaults(t, impl.FaNull, "i = @*p;", "i = @*p + 1 / 0;", "i = 1 / @*p;", "i = a[@*p];", "i = @*q + *p;", "p = &a[0]; i = *p + @*q;", "p = &a[0]; p = q; i = @*p;")
}

// Of a statement, too: its terms, in their order, and then its own fault.
func TestRunOrderInStatements(t *testing.T) {
	checkFaults(t, impl.FaZero,
		"a[1 @/ 0] = 2147483647 + 1;", "a[9] = 1 @/ 0;", "a[-1] = 1 @% 0;", "a[a[1 @/ 0]] = 1;", "a[0] = a[1 @/ 0];", "*p = 1 @/ 0;", "p = &a[3]; *p = 1 @/ 0;",
		"p = &a[1 @/ 0];", "p += 1 @/ 0;", "p = &a[3]; p += 1 + 1 @/ 0;", "i = k(1 @/ 0, 2147483647 + 1);", "i = k(1, 1 @/ 0);", "i = k(a[0], a[1 @/ 0]);",
		"print 1 @/ 0;", "assert 1 @/ 0 == 0;", "return 1 @/ 0;", "if 1 @/ 0 == 0 { } else { }", "while 1 @/ 0 == 0 { }", "for i = 1 @/ 0 .. 1 << 32 { }",
		"for i = 0 .. 1 @/ 0 { }", "i = 7; for i = 2 .. 10 @/ (i - 2) { }", "for i = 0 .. 10 @/ (2 - i) { }")
	checkFaults(t, impl.FaOver, "a[2147483647 @+ 1] = 1 / 0;", "i = k(2147483647 @+ 1, 1 / 0);", "for i = 2147483647 @+ 1 .. 1 / 0 { }", "a[3] = 2147483647 @+ 1;", "p += 2147483647 @+ 1;")
	checkFaults(t, impl.FaBounds, "@a[3] = 1;", "@a[-1] = 1;", "@b[1] = 1;", "a[3 - 1] = @a[3];", "a[@a[3]] = 1 / 0;", "a[3] = @b[1];", "p = &a[3]; @*p = 1;", "p = &a[3]; *p = @*p;",
		"@p = &a[4];", "@p = &a[-1];", "@p = &b[2];", "p = &a[@a[3]];", "p = &a[0]; @p += 4;", "p = &a[0]; @p += -1;", "@a[a[0] - 1] = a[0];")
	checkFaults(t, impl.FaNull, "@*p = 1;", "*p = @*p;", "*p = @*q;", "@p += 1;", "@p += 0;", "@p += 9;", "@p += -1;", "p += @*p;", "a[9] = @*p;", "a[@*p] = 1 / 0;", "p = &a[@*p];",
		"p = null; @*p = 1;", "p = &a[1]; p = null; @p += 1;", "i = k(@*p, *q);", "p = &a[0]; i = k(*p, @*q);", "print @*p;", "assert @*p == 1;")
	checkFaults(t, impl.FaAssert, "@assert 1 > 2;", "@assert not 1 < 2;", "@assert null p and i != 0;", "p = &a[3]; @assert null p;", "assert i == 0; @assert i == 1; assert i == 0;", "@assert not null p;")
}

func TestRunOrderInConditions(t *testing.T) {
	checkFaults(t, impl.FaZero, "assert 1 @/ 0 == 1 << 32;", "assert 1 == 1 @/ 0;", "assert 1 < 2 and 1 @/ 0 == 1;", "assert 1 > 2 or 1 @/ 0 == 1;", "assert 1 @/ 0 == 1 or 1 < 2;",
		"assert 1 @/ 0 == 1 and 1 > 2;", "assert not 1 @/ 0 == 1;", "assert [1 < 2 or 1 / 0 == 1] and 1 @/ 0 == 1;", "assert null p and 1 @/ 0 == 1;", "assert not null p or 1 @/ 0 == 1;")
	for _, c := range []struct {
		condition string
		holds     int
	}{
		{"1 < 2", 1}, {"2 < 1", 0}, {"1 < 1", 0}, {"1 <= 1", 1}, {"2 <= 1", 0}, {"1 == 1", 1}, {"1 == 2", 0}, {"1 != 2", 1}, {"1 != 1", 0},
		{"2 > 1", 1}, {"1 > 1", 0}, {"1 >= 1", 1}, {"1 >= 2", 0}, {"-1 < 0", 1}, {"-2147483647 - 1 < 2147483647", 1},
		{"1 < 2 and 2 < 3", 1}, {"1 < 2 and 3 < 2", 0}, {"2 < 1 and 1 / 0 == 0", 0}, {"2 < 1 and 2 < 3", 0},
		{"1 < 2 or 1 / 0 == 0", 1}, {"2 < 1 or 2 < 3", 1}, {"2 < 1 or 3 < 2", 0}, {"1 < 2 or 3 < 2", 1},
		{"not 1 < 2", 0}, {"not 2 < 1", 1}, {"not not 1 < 2", 1}, {"not [2 < 1 and 1 / 0 == 0]", 1}, {"not [1 < 2 or *p == 0]", 0},
		{"null p", 1}, {"not null p", 0}, {"null p or *p == 0", 1}, {"not null p and *p == 0", 0},
		{"2 < 1 and 1 / 0 == 0 or 1 < 2", 1}, {"1 < 2 or 1 / 0 == 0 and 2 < 1", 1}, {"[1 < 2 or 1 / 0 == 0] and 2 < 1", 0}, {"2 < 1 and [1 / 0 == 0 or 1 < 2]", 0},
	} {
		checkBody(t, "if "+c.condition+" { print 1; } else { print 0; }", isDone(2, c.holds))
		checkBody(t, "if "+c.condition+" { print 1; }", isDone(1+c.holds, []int{1}[:c.holds]...))
		checkBody(t, "while "+c.condition+" { print 1; stop; }", isDone(2+2*c.holds, []int{1}[:c.holds]...))
	}
}

// A run that has a fault did what came ahead, and nothing behind.
func TestRunEndsAtTheFault(t *testing.T) {
	checkBody(t, "print 1; print 2 @/ 0; print 3;", isFault(impl.FaZero, 2, 1))
	checkBody(t, "for i = 0 .. 5 { print @a[i]; }", isFault(impl.FaBounds, 9, 0, 0, 0))
	checkBody(t, "for i = 0 .. 5 { print i; @a[i] = i; }", isFault(impl.FaBounds, 13, 0, 1, 2, 3))
	checkRun(t, "func f(x) { print x; print 6 @/ x; return x; } func main() { var i; i = f(2); i = f(0); print 9; }", nil, isFault(impl.FaZero, 7, 2, 3, 0))
	checkRun(t, "var g; func f() { g = 3; @assert g == 4; return 1; } func main() { print 7; g = f(); print g; }", nil, isFault(impl.FaAssert, 4, 7))
}

// A reference is null, or at a place from the first cell to just behind the last one.
func TestRunReferences(t *testing.T) {
	for _, c := range []struct {
		body string
		want impl.Outcome
	}{
		{"p = &a[0]; *p = 5; print a[0]; print *p;", isDone(4, 5, 5)},
		{"p = &a[2]; *p = 6; print a[2]; print a[0];", isDone(4, 6, 0)},
		{"p = &a[1]; a[1] = 4; print *p;", isDone(3, 4)},
		{"p = &a[3]; if null p { print 1; } else { print 2; }", isDone(3, 2)},
		{"p = &a[3]; q = p; q += -1; *q = 3; print a[2];", isDone(5, 3)},
		{"p = &a[0]; p += 3; p += -1; *p = 8; print a[2];", isDone(5, 8)},
		{"p = &a[3]; p += -3; *p = 1; print a[0];", isDone(4, 1)},
		{"p = &a[3]; p += 0; p += -3; p += 3; p += -2; *p = 1; print a[1];", isDone(7, 1)},
		{"p = &a[0]; p += 0; print *p;", isDone(3, 0)},
		{"p = &a[0]; q = p; p += 1; *q = 1; *p = 2; print a[0]; print a[1]; print *q;", isDone(8, 1, 2, 1)},
		{"p = &b[0]; p += 1; p += -1; *p = 3; print b[0]; print a[0];", isDone(6, 3, 0)},
		{"p = &b[1]; p = &a[1]; *p = 4; print a[1];", isDone(4, 4)},
		{"p = &a[0]; p = null; if null p { print 1; }", isDone(4, 1)},
		{"p = &a[0]; q = null; p = q; if null p { print 1; }", isDone(5, 1)},
		{"if null p and null q { print 1; } p = &a[0]; if null q and not null p { print 2; } q = p; if not null q { print 3; }", isDone(8, 1, 2, 3)},
		{"a[0] = 2; p = &a[0]; a[*p] = *p + 5; p += *p; print *p; print a[2];", isDone(6, 7, 7)},
		{"p = p; if null p { print 1; } p = &a[2]; p = p; *p = 1; print a[2];", isDone(7, 1, 1)},
		{"p = &a[0]; p = &a[*p + 2]; *p = 9; print a[2];", isDone(4, 9)},
	} {
		checkBody(t, c.body, c.want)
	}
	checkFaults(t, impl.FaBounds, "p = &a[3]; i = @*p;", "p = &a[3]; @*p = 1;", "p = &a[3]; @p += 1;", "p = &a[3]; @p += -4;", "p = &a[2]; @p += 2;", "p = &a[2]; p += 1; @*p = 1;",
		"p = &b[0]; @p += 2;", "p = &b[0]; @p += -1;", "p = &b[1]; i = @*p;", "p = &a[1]; @p += 2147483647;", "p = &a[2]; @p += -2147483647 - 1;", "p = &a[3]; q = p; i = @*q;",
		"p = &a[3]; p += -1; *p = 1; p += 1; i = @*p;", "@p = &a[2147483647];", "p = &a[1]; @p = &a[4];")
}

// Cells are there from 0 to the size less 1.
func TestRunCells(t *testing.T) {
	for _, size := range []int{1, 2, 3, 63, 64} {
		for _, at := range []int{-size, -1, 0, size - 1, size, size + 1, 2 * size, impl.NumMax} {
			head := "array o[2]; array a[" + strconv.Itoa(size) + "]; array e[1]; func main() { ref p; "
			place := strconv.Itoa(at)
			isCell, isPlace := at >= 0 && at < size, at >= 0 && at <= size
			for _, c := range []struct {
				body  string
				ok    bool
				steps int
				done  impl.Outcome
			}{
				{"print @a[PLACE];", isCell, 1, isDone(1, 0)},
				{"@a[PLACE] = 7; print a[PLACE] + o[0] + o[1] + e[0];", isCell, 1, isDone(2, 7)},
				{"@p = &a[PLACE]; print 1;", isPlace, 1, isDone(2, 1)},
				{"p = &a[0]; @p += PLACE; print 1;", isPlace, 2, isDone(3, 1)},
				{"p = &a[" + strconv.Itoa(size) + "]; @p += PLACE - " + strconv.Itoa(size) + "; print 1;", isPlace, 2, isDone(3, 1)},
			} {
				body := strings.ReplaceAll(c.body, "PLACE", place)
				want := isFault(impl.FaBounds, c.steps)
				if c.ok {
					want = c.done
				}
				checkRun(t, head+body+" }", nil, want)
			}
		}
	}
	checkBody(t, "print a[0] + a[1] + a[2] + b[0] + g + h + i + j;", isDone(1, 0))
	checkBody(t, "for i = 0 .. 3 { a[i] = i + 1; } for i = 0 .. 3 { print a[2 - i]; } print b[0];", isDone(17, 3, 2, 1, 0))
}

func TestRunFor(t *testing.T) {
	const most = impl.NumMax
	for _, c := range []struct {
		body string
		want impl.Outcome
	}{
		{"for i = 0 .. 3 { print i * i; } print i;", isDone(9, 0, 1, 4, 3)},
		{"j = 2; for i = 0 .. j { print i; if i < 3 { j = j + 1; } } print i;", isDone(22, 0, 1, 2, 3, 4, 5)},
		{"j = 5; for i = 0 .. j { j = j - 1; print i; } print i;", isDone(13, 0, 1, 2, 3)},
		{"for i = 0 .. i + 1 { if i == 3 { stop; } print i; }", isDone(13, 0, 1, 2)},
		{"for i = 0 .. 3 - i { print i; } print i;", isDone(7, 0, 1, 2)},
		{"a[0] = 2; for i = 0 .. a[0] { a[0] = 1; print i; } print i;", isDone(7, 0, 1)},
		{"p = &a[0]; *p = 2; for i = 0 .. *p { p = &a[1]; } print i;", isDone(7, 1)},
		{"for i = 2147483645 .. 2147483647 { print i; } print i;", isDone(7, most-2, most-1, most)},
		{"for i = 2147483647 .. 2147483647 { print 1; } print i;", isDone(3, most)},
		{"for i = 2147483647 .. -1 { print 1; } print i;", isDone(3, most)},
		{"for i = -2147483647 - 1 .. -2147483646 { print i; } print i;", isDone(7, impl.NumMin, impl.NumMin+1, impl.NumMin+2)},
		{"for i = -1 .. 1 { print i; } print i;", isDone(7, -1, 0, 1)},
		{"i = 9; for i = 5 .. 3 { print 1; } print i;", isDone(4, 5)},
		{"i = 9; for i = i .. i { print 1; } print i;", isDone(4, 9)},
		{"i = 3; for i = i - 1 .. i + 1 { if i == 5 { stop; } print i; }", isDone(14, 2, 3, 4)},
		{"for i = 0 .. 2 { for j = i .. 2 { print 10 * i + j; } } print j;", isDone(15, 0, 1, 11, 2)},
		{"for i = 0 .. 2 { } for i = 0 .. 2 { } print i;", isDone(9, 2)},
		{"for i = 0 .. 2 { j = j + i; } while i > 0 { i = i - 1; print i; } print j;", isDone(15, 1, 0, 1)},
	} {
		checkBody(t, c.body, c.want)
	}
	// A for counts with an int of its own function, whatever a function that is called counts with.
	checkRun(t, "func f() { var i; for i = 7 .. 9 { } return i; } func main() { var i, x; for i = 0 .. 2 { x = f(); print 10 * x + i; } }", nil, isDone(18, 90, 91))
}

func TestRunWhile(t *testing.T) {
	checkBody(t, "while i < 3 { print i; i = i + 1; } print i;", isDone(12, 0, 1, 2, 3))
	checkBody(t, "while i > 0 { print 1; } print 2;", isDone(3, 2))
	checkBody(t, "while null p { p = &a[0]; } print 1;", isDone(5, 1))
	checkBody(t, "while i < 2 and j < 5 or i == 0 { i = i + 1; j = j + 3; } print j;", isDone(9, 6))
	checkBody(t, "p = &a[0]; while not null p { if i == 2 { p = null; } else { p += 1; } i = i + 1; } print i;", isDone(16, 3))
}

// The next input, whatever is in the way of its bits; a read without one ends the run, wherever it stands.
func TestRunReads(t *testing.T) {
	inputs := []int{0, 5, -1, impl.NumMax, impl.NumMax + 1, impl.NumMin, impl.NumMin - 1, 1 << 32, 1<<32 + 7, -1<<32 - 1, math.MaxInt, math.MinInt}
	want := []int{0, 5, -1, impl.NumMax, impl.NumMin, impl.NumMin, impl.NumMax, 0, 7, -1, -1, 0}
	checkRun(t, "func main() { var i; while 1 < 2 { read i; print i; } }", inputs, isDone(1+3*12+2, want...))
	for i, input := range inputs {
		checkRun(t, "var g; func main() { read g; print g; }", []int{input}, isDone(2, want[i]))
	}
	checkRun(t, "func main() { var i; print 1; read i; print 2; }", nil, isDone(2, 1))
	checkRun(t, "func main() { var i, j; read i; read j; print 10 * i + j; read j; print 9; }", []int{4, 2}, isDone(4, 42))
	checkRun(t, "func main() { var i; for i = 0 .. 9 { read j; print j; } } var j;", []int{4, 2}, isDone(9, 4, 2))
	const called = "func f() { var i; print 1; read i; print 2; return i; } func main() { var j; print 0; j = f(); print j; j = f(); print 3; }"
	checkRun(t, called, nil, isDone(4, 0, 1))
	checkRun(t, called, []int{8}, isDone(10, 0, 1, 2, 8, 1))
	checkRun(t, called, []int{8, 9}, isDone(13, 0, 1, 2, 8, 1, 2, 3))
	checkRun(t, called, []int{8, 9, 10}, isDone(13, 0, 1, 2, 8, 1, 2, 3))
	const deep = "func f(n) { var i; if n > 0 { i = f(n - 1); print i; } else { read i; } return i + 1; } func main() { var j; while 1 < 2 { j = f(3); print j; } }"
	checkRun(t, deep, nil, isDone(11))
	checkRun(t, deep, []int{5}, isDone(29, 6, 7, 8, 9))
}

func TestRunReturnsAndStopsWithinLoops(t *testing.T) {
	const loops = "func f() { var i, j; while 1 < 2 { for i = 0 .. 9 { for j = 0 .. 9 { if i * j == 6 { WORD; } } } } return -1; } func main() { var x; print 1; x = f(); print x; }"
	within := func(word string) string { return strings.Replace(loops, "WORD", word, 1) }
	checkRun(t, within("return i * 10 + j"), nil, isDone(44, 1, 16))
	checkRun(t, within("stop"), nil, isDone(43, 1))
	checkRun(t, strings.Replace(within("read k"), "var i, j", "var i, j, k", 1), nil, isDone(43, 1))
	checkBody(t, "for i = 0 .. 3 { print i; return 1; print 9; } print 9;", isDone(4, 0))
	checkBody(t, "for i = 0 .. 3 { print i; stop; print 9; } print 9;", isDone(4, 0))
	checkBody(t, "while 1 < 2 { i = i + 1; if i == 3 { return i; } else { print i; } }", isDone(13, 1, 2))
	checkBody(t, "while 1 < 2 { i = i + 1; if i == 3 { stop; } else { print i; } }", isDone(13, 1, 2))
	checkBody(t, "if i == 0 { return 1; } print 9;", isDone(2))
	checkBody(t, "if i != 0 { } else { stop; } print 9;", isDone(2))
	checkBody(t, "return 1; print 9;", isDone(1))
	checkBody(t, "print 1; stop; print 9;", isDone(2, 1))
	// A return leaves just its own function, in whose caller's loop all goes on.
	checkRun(t, "func f(x) { var i; for i = 0 .. 5 { if i == x { return 10 * i; } } } func main() { var i, x; for i = 4 .. 7 { x = f(i); print x; } }", nil, isDone(47, 40, 0, 0))
}

func TestRunFunctions(t *testing.T) {
	for _, c := range []struct {
		text string
		want impl.Outcome
	}{
		// One that is left without a return is left with 0, whatever was left ahead.
		{"func e() { } func main() { var i; i = 5; i = e(); print i; }", isDone(3, 0)},
		{"func e(x) { if x > 0 { return x; } } func main() { var i; i = e(3); print i; i = e(0); print i; i = e(4); print i; }", isDone(11, 3, 0, 4)},
		{"func e() { var x; x = 7; while x > 5 { x = x - 1; } } func main() { var i; i = 1; i = e(); print i; }", isDone(10, 0)},
		// A return's number may be any term.
		{"array a[2]; func e() { ref p; a[1] = 4; p = &a[1]; return -*p + a[1] * 2; } func main() { var i; i = e(); print i; }", isDone(5, 4)},
		// Parameters are numbers of their own, in order.
		{"func e(x, y, z) { print x; print y; print z; x = 9; return x; } func main() { var x, y; x = 1; y = e(x, x + 1, y); print x; print y; }", isDone(9, 1, 2, 0, 1, 9)},
		{"func e(x) { x = x + 1; return x; } func main() { var i, j; i = 1; j = e(i); print i; print j; i = e(e0); } var e0;", isDone(9, 1, 2)},
		// Locals are 0 and null whenever a function begins.
		{"array a[3]; func e(x) { var y; ref r; if null r { print 1; } print y; r = &a[x]; y = 5; return y; } func main() { var i; i = e(1); i = e(2); print i; }", isDone(15, 1, 0, 1, 0, 5)},
		// Globals and cells are of all functions.
		{"array a[3]; var g; func e(x) { ref r; r = &a[x]; *r = 7; g = g + x; a[0] = 9; r += -1; return *r; } func main() { var i; i = e(1); print i; print g; i = e(2); print i; print g; print a[1] + a[2]; }", isDone(19, 9, 1, 7, 3, 14)},
		// The name is set when the function is left, be it a global that the function sets.
		{"var g; func e() { g = 5; return g - 3; } func main() { g = e(); print g; }", isDone(4, 2)},
		{"var g; func e() { g = 5; } func main() { g = 1; g = e(); print g; }", isDone(4, 0)},
		{"var g; func e(x) { g = g + 1; return g * x; } func main() { g = 1; g = e(g + 1); g = e(g); print g; }", isDone(8, 20)},
		// References of a caller stay, whatever those of the same name are in what it calls.
		{"array a[2]; func e() { ref p; p = &a[1]; *p = 3; p = null; } func main() { var i; ref p; p = &a[0]; i = e(); *p = 4; print a[0]; print a[1]; print i; }", isDone(9, 4, 3, 0)},
		// Each call has numbers of its own.
		{"func fact(n) { var r; if n < 2 { return 1; } r = fact(n - 1); return n * r; } func main() { var i; i = fact(5); print i; }", isDone(16, 120)},
		{"func fib(n) { var x, y; if n < 2 { return n; } x = fib(n - 1); y = fib(n - 2); return x + y; } func main() { var i; i = fib(7); print i; }", isDone(124, 13)},
		{"func odd(n) { var r; if n > 0 { r = even(n - 1); return r; } return 0; } func even(n) { var r; if n > 0 { r = odd(n - 1); return r; } return 1; } func main() { var i; i = odd(7); print i; i = odd(6); print i; }", isDone(47, 1, 0)},
		// A main that is called is left like another function.
		{"var g; func main() { var x; g = g + 1; print g; if g < 3 { x = main(); print 10 + x; } return g; }", isDone(16, 1, 2, 3, 13, 13)},
		{"var g; func main() { var x; g = g + 1; if g < 3 { x = 8; x = main(); print x; } }", isDone(12, 0, 0)},
		{"var g; func e() { var x; g = g + 1; if g < 3 { x = main(); } return x + 1; } func main() { var x; x = e(); print x; return x; }", isDone(20, 1, 2, 3)},
		// Functions may stand behind those that call them.
		{"func main() { var i; i = late(3); print i; } func late(x) { return x; }", isDone(3, 3)},
	} {
		checkRun(t, c.text, nil, c.want)
	}
}

// RunMaxDepth functions may run at once, main among them.
func TestRunDepth(t *testing.T) {
	down := func(n string) string {
		return "func d(n) { var x; if n > 1 { @x = d(n - 1); } return x + 1; } func main() { var x; x = d(" + n + "); print x; }"
	}
	checkRun(t, down("1"), nil, isDone(4, 1))
	checkRun(t, down("10"), nil, isDone(31, 10))
	checkRun(t, down("11"), nil, isDone(34, 11))
	checkRun(t, down("12"), nil, isFault(impl.FaDepth, 23))
	checkRun(t, down("13"), nil, isFault(impl.FaDepth, 23))
	checkRun(t, strings.Replace(down("11"), "print x;", "print x; x = d(11); print x; x = d(11); print x;", 1), nil, isDone(102, 11, 11, 11))
	checkRun(t, strings.Replace(down("11"), "print x;", "print x; x = d(12); print x;", 1), nil, isFault(impl.FaDepth, 34+23, 11))
	checkRun(t, "func main() { @g = main(); } var g;", nil, isFault(impl.FaDepth, 12))
	checkRun(t, "func main() { g = g + 1; print g; @h = main(); } var g; var h;", nil, isFault(impl.FaDepth, 36, 1, 2, 3, 4, 5, 6, 7, 8, 9, 10, 11, 12))
	checkRun(t, "func f() { var x; x = k(); return x; } func k() { var x; @x = f(); return x; } func main() { var x; x = k(); }", nil, isFault(impl.FaDepth, 12))
	checkRun(t, "func f() { var x; @x = k(); return x; } func k() { var x; x = f(); return x; } func main() { var x; x = f(); }", nil, isFault(impl.FaDepth, 12))
	// What a return leaves, out of loops too, runs no more.
	checkRun(t, "func f(x) { while 1 < 2 { for x = 0 .. 9 { return x; } } } func main() { var i, j; for i = 0 .. 20 { j = f(i); } print i; }", nil, isDone(1+21+20*6+1, 20))
	// The terms of a call come ahead of its own fault.
	terms := func(n string) string {
		return "func d(n) { var x; x = d(n - 1 + 0 / (n - 1)); return x; } func main() { var x; x = d(" + n + "); }"
	}
	checkRun(t, strings.Replace(terms("11"), "0 /", "0 @/", 1), nil, isFault(impl.FaZero, 12))
	checkRun(t, strings.Replace(terms("12"), "x = d", "@x = d", 1), nil, isFault(impl.FaDepth, 12))
}

// Output is new memory, and what is handed in stays as it is, spare room included.
func TestRunMemory(t *testing.T) {
	const text = "func main() { var i; while 1 < 2 { read i; print i; } }"
	room := []int{1, 2, 3, 44, 55}
	first := impl.TreeRun(text, room[:3], 1000)
	second := impl.TreeRun(text, room[:3], 1000)
	if !slices.Equal(room, []int{1, 2, 3, 44, 55}) {
		t.Error("the inputs were written into", room)
	}
	wiped := first.Output[:cap(first.Output)]
	for i := range wiped {
		wiped[i] = -1
	}
	if !slices.Equal(second.Output, []int{1, 2, 3}) || !slices.Equal(room, []int{1, 2, 3, 44, 55}) {
		t.Error("answers share memory", second.Output, room)
	}
	if third := impl.TreeRun(text, room[:3], 1000); !sameOutcome(third, second) {
		t.Error("one run hangs on another one", third, second)
	}
}
