package tests

import (
	"slices"
	"strconv"
	"strings"
	"testing"

	"loop.example/sedge/impl"
)

// kindNames are the kinds of nodes by their numbers.
func kindNames() []string {
	return strings.Fields("- program array global func param local ref block set store put addr move if while for" +
		" read print assert stop return call use num var elem deref op null cmp and or not isnull")
}

// treeText is a tree, a piece for each node: its kind, name, number, place and kids.
func treeText(nodes []impl.Node) string {
	var pieces []string
	for _, node := range nodes {
		piece := kindNames()[node.Kind]
		if node.Name != "" {
			piece += " " + node.Name
		}
		if node.Num != 0 {
			piece += " " + strconv.Itoa(node.Num)
		}
		piece += "@" + strconv.Itoa(node.At)
		for _, kid := range node.Kids {
			piece += "," + strconv.Itoa(kid)
		}
		pieces = append(pieces, piece)
	}
	return strings.Join(pieces, " | ")
}

// sameNodes says whether two trees are the same; the empty list and the nil list are.
func sameNodes(a, b []impl.Node) bool {
	return slices.EqualFunc(a, b, func(x, y impl.Node) bool {
		return x.Kind == y.Kind && x.At == y.At && x.Num == y.Num && x.Name == y.Name && slices.Equal(x.Kids, y.Kids)
	})
}

// placeless is a tree without its places.
func placeless(nodes []impl.Node) []impl.Node {
	nodes = slices.Clone(nodes)
	for i := range nodes {
		nodes[i].At = 0
	}
	return nodes
}

// checkRefused holds both functions against a fault that they must tell of a text.
func checkRefused(t *testing.T, text string, want impl.Fault) {
	t.Helper()
	nodes, fault := impl.ParseTree(text)
	if len(nodes) != 0 || fault != want {
		t.Errorf("ParseTree(%.90q), %d bytes: %d nodes and %v, not %v", text, len(text), len(nodes), fault, want)
	}
	made, fault := impl.ParsePrint(text)
	if made != "" || fault != want {
		t.Errorf("ParsePrint(%.90q), %d bytes: %.40q and %v, not %v", text, len(text), made, fault, want)
	}
}

// checkWrong takes texts in which @ stands at the place of what is wrong.
func checkWrong(t *testing.T, code int, marked ...string) {
	t.Helper()
	for _, text := range marked {
		unmarked, at := cutMark(t, text)
		checkRefused(t, unmarked, impl.Fault{Code: code, At: at})
	}
}

// cutMark is a text without its @, and where that stood.
func cutMark(t *testing.T, text string) (string, int) {
	t.Helper()
	ahead, behind, ok := strings.Cut(text, "@")
	if !ok {
		t.Fatalf("%q has no mark", text)
	}
	return ahead + behind, len(ahead)
}

// checkWrongBody takes what stands in a function likewise.
func checkWrongBody(t *testing.T, code int, marked ...string) {
	t.Helper()
	for _, body := range marked {
		checkWrong(t, code, "func f(){"+body+"}")
	}
}

// checkTree is the tree of a text that must be read; whatever it is, promises 8 and 9 are asked of it.
func checkTree(t *testing.T, text string) []impl.Node {
	t.Helper()
	nodes, fault := impl.ParseTree(text)
	if fault != (impl.Fault{}) {
		t.Errorf("ParseTree(%.90q), %d bytes: %v", text, len(text), fault)
		return nil
	}
	checkPromise8(t, text, nodes)
	checkPromise9(t, text, nodes)
	return nodes
}

// checkPromise8: what is written down is the same program, and is written down as itself.
func checkPromise8(t *testing.T, text string, nodes []impl.Node) {
	t.Helper()
	written, fault := impl.ParsePrint(text)
	if fault != (impl.Fault{}) {
		t.Errorf("ParsePrint(%.90q): %v", text, fault)
	}
	if _, fault := impl.LexTokens(written); fault != (impl.Fault{}) {
		if fault.Code != impl.SrLong && fault.Code != impl.SrMany {
			t.Errorf("%.90q is written down as %.90q, which has no tokens: %v", text, written, fault)
		}
		checkRefused(t, written, fault)
		return
	}
	again, fault := impl.ParseTree(written)
	if fault != (impl.Fault{}) || !sameNodes(placeless(again), placeless(nodes)) {
		t.Errorf("%q is written down as another program, %q: %v", text, written, fault)
	}
	if twice, fault := impl.ParsePrint(written); twice != written || fault != (impl.Fault{}) {
		t.Errorf("%q is written down as %q: %v", written, twice, fault)
	}
}

// checkPromise9: each node but the last one is a kid of just one node, which stands behind it.
func checkPromise9(t *testing.T, text string, nodes []impl.Node) {
	t.Helper()
	parents := make([]int, len(nodes))
	for i, node := range nodes {
		for _, kid := range node.Kids {
			if kid < 0 || kid >= i {
				t.Errorf("%q: node %d has the kid %d", text, i, kid)
				continue
			}
			parents[kid]++
		}
	}
	for i, count := range parents {
		last := i == len(nodes)-1
		if last && count != 0 || !last && count != 1 {
			t.Errorf("%q: node %d of %d is a kid of %d nodes", text, i, len(nodes), count)
		}
	}
	if len(nodes) == 0 || nodes[len(nodes)-1].Kind != impl.NdProgram {
		t.Errorf("%q: the last of %d nodes is no program", text, len(nodes))
	}
}

// shapeCase is a text, its tree and how it is written down.
type shapeCase struct {
	text    string
	tree    string
	written string
}

func checkShapes(t *testing.T, cases []shapeCase) {
	t.Helper()
	for _, c := range cases {
		nodes := checkTree(t, c.text)
		if got := treeText(nodes); got != c.tree {
			t.Errorf("ParseTree(%q) is\n%s\nnot\n%s", c.text, got, c.tree)
		}
		if got, _ := impl.ParsePrint(c.text); got != c.written {
			t.Errorf("ParsePrint(%q) is %q, not %q", c.text, got, c.written)
		}
	}
}

// inMain is a case of a statement that stands at byte 9 in a function; its last node is node last.
func inMain(statement, tree string, last int, written string) shapeCase {
	n := strconv.Itoa
	return shapeCase{
		"func f(){" + statement + "}",
		tree + " | block@8," + n(last) + " | func f@5," + n(last+1) + " | program@0," + n(last+2),
		"func f() {\n" + written + "\n}\n",
	}
}

func TestParseConstants(t *testing.T) {
	if impl.SrcMaxDepth != 10 || impl.SrSyntax != 6 || impl.SrDeep != 7 {
		t.Error("limit and codes", impl.SrcMaxDepth, impl.SrSyntax, impl.SrDeep)
	}
	kinds := []int{impl.NdProgram, impl.NdArray, impl.NdGlobal, impl.NdFunc, impl.NdParam, impl.NdLocal, impl.NdRef, impl.NdBlock,
		impl.NdSet, impl.NdStore, impl.NdPut, impl.NdAddr, impl.NdMove, impl.NdIf, impl.NdWhile, impl.NdFor, impl.NdRead,
		impl.NdPrint, impl.NdAssert, impl.NdStop, impl.NdReturn, impl.NdCall, impl.NdUse, impl.NdNum, impl.NdVar, impl.NdElem,
		impl.NdDeref, impl.NdOp, impl.NdNull, impl.NdCmp, impl.NdAnd, impl.NdOr, impl.NdNot, impl.NdIsNull}
	for i, kind := range kinds {
		if kind != i+1 {
			t.Error("kind", kind, "in place", i)
		}
	}
}

func TestParseDeclarations(t *testing.T) {
	checkShapes(t, []shapeCase{
		{"", "program@0", ""},
		{" \n# so", "program@0", ""},
		{"array a[3];", "array a 3@6 | program@0,0", "array a[3];\n"},
		{" array  a [0] ;", "array a@8 | program@0,0", "array a[0];\n"},
		{"array a[2147483647];", "array a 2147483647@6 | program@0,0", "array a[2147483647];\n"},
		{"var g;var g;", "global g@4 | global g@10 | program@0,0,1", "var g;\nvar g;\n"},
		{"func f(){}", "block@8 | func f@5,0 | program@0,1", "func f() {\n}\n"},
		{"func f ( a,b , c ) { }", "param a@9 | param b@11 | param c@15 | block@19 | func f@5,0,1,2,3 | program@0,4", "func f(a, b, c) {\n}\n"},
		{"func f(){var i,j;ref p;var k;}", "local i@13 | local j@15 | ref p@21 | local k@27 | block@8 | func f@5,0,1,2,3,4 | program@0,5",
			"func f() {\nvar i;\nvar j;\nref p;\nvar k;\n}\n"},
		{"func f(a){ref p;stop;stop;}var g;", "param a@7 | ref p@14 | stop@16 | stop@21 | block@9,2,3 | func f@5,0,1,4 | global g@31 | program@0,5,6",
			"func f(a) {\nref p;\nstop;\nstop;\n}\nvar g;\n"},
	})
}

func TestParseStatements(t *testing.T) {
	checkShapes(t, []shapeCase{
		inMain("x=1;", "num 1@11 | set x@9,0", 1, "x = 1;"),
		inMain("x=null;", "null@11 | set x@9,0", 1, "x = null;"),
		inMain("x=y;", "var y@11 | set x@9,0", 1, "x = y;"),
		inMain("x=&a[i];", "use a@12 | var i@14 | addr x@9,0,1", 2, "x = &a[i];"),
		inMain("x=g();", "use g@11 | call x@9,0", 1, "x = g();"),
		inMain("x=g(1,y);", "use g@11 | num 1@13 | var y@15 | call x@9,0,1,2", 3, "x = g(1, y);"),
		inMain("x+=1;", "num 1@12 | move x@9,0", 1, "x += 1;"),
		inMain("a[i]=1;", "var i@11 | num 1@14 | store a@9,0,1", 2, "a[i] = 1;"),
		inMain("*p=1;", "num 1@12 | put p@9,0", 1, "*p = 1;"),
		inMain("read x;", "read x@14", 0, "read x;"),
		inMain("print x;", "var x@15 | print@9,0", 1, "print x;"),
		inMain("assert null p;", "isnull p@16 | assert@9,0", 1, "assert null p;"),
		inMain("stop;", "stop@9", 0, "stop;"),
		inMain("return 0;", "num@16 | return@9,0", 1, "return 0;"),
		inMain("if null p{}", "isnull p@12 | block@18 | if@9,0,1", 2, "if null p {\n}"),
		inMain("if null p{stop;}else{}", "isnull p@12 | stop@19 | block@18,1 | block@29 | if@9,0,2,3", 4, "if null p {\nstop;\n} else {\n}"),
		inMain("while x<1{stop;}", "var x@15 | num 1@17 | cmp 3@16,0,1 | stop@19 | block@18,3 | while@9,2,4", 5, "while x < 1 {\nstop;\n}"),
		inMain("for i=1..x{stop;}", "num 1@15 | var x@18 | stop@20 | block@19,2 | for i@13,0,1,3", 4, "for i = 1 .. x {\nstop;\n}"),
	})
}

func TestParseTerms(t *testing.T) {
	checkShapes(t, []shapeCase{
		inMain("x=a[1];", "num 1@13 | elem a@11,0 | set x@9,1", 2, "x = a[1];"),
		inMain("x=*p;", "deref p@11 | set x@9,0", 1, "x = *p;"),
		inMain("x=2**p;", "num 2@11 | deref p@13 | op 3@12,0,1 | set x@9,2", 3, "x = 2 * *p;"),
		inMain("x=((1));", "num 1@13 | set x@9,0", 1, "x = 1;"),
		inMain("x=-1;", "num@11 | num 1@12 | op 2@11,0,1 | set x@9,2", 3, "x = -1;"),
		inMain("x=0-1;", "num@11 | num 1@13 | op 2@12,0,1 | set x@9,2", 3, "x = 0 - 1;"),
		inMain("x=--y;", "num@11 | num@12 | var y@13 | op 2@12,1,2 | op 2@11,0,3 | set x@9,4", 5, "x = --y;"),
		inMain("x=-(-y);", "num@11 | num@13 | var y@14 | op 2@13,1,2 | op 2@11,0,3 | set x@9,4", 5, "x = --y;"),
		inMain("x=-(0-y);", "num@11 | num@13 | var y@15 | op 2@14,1,2 | op 2@11,0,3 | set x@9,4", 5, "x = -(0 - y);"),
		inMain("x=1-2-3;", "num 1@11 | num 2@13 | op 2@12,0,1 | num 3@15 | op 2@14,2,3 | set x@9,4", 5, "x = 1 - 2 - 3;"),
		inMain("x=1-(2-3);", "num 1@11 | num 2@14 | num 3@16 | op 2@15,1,2 | op 2@12,0,3 | set x@9,4", 5, "x = 1 - (2 - 3);"),
		inMain("x=1*2+3;", "num 1@11 | num 2@13 | op 3@12,0,1 | num 3@15 | op 1@14,2,3 | set x@9,4", 5, "x = 1 * 2 + 3;"),
		inMain("x=1+2*3;", "num 1@11 | num 2@13 | num 3@15 | op 3@14,1,2 | op 1@12,0,3 | set x@9,4", 5, "x = 1 + 2 * 3;"),
		inMain("x=-1*2;", "num@11 | num 1@12 | op 2@11,0,1 | num 2@14 | op 3@13,2,3 | set x@9,4", 5, "x = -1 * 2;"),
		inMain("x=-(1*2);", "num@11 | num 1@13 | num 2@15 | op 3@14,1,2 | op 2@11,0,3 | set x@9,4", 5, "x = -(1 * 2);"),
	})
}

func TestParseConditions(t *testing.T) {
	checkShapes(t, []shapeCase{
		inMain("assert x==1;", "var x@16 | num 1@19 | cmp 1@17,0,1 | assert@9,2", 3, "assert x == 1;"),
		inMain("assert not null p;", "isnull p@20 | not@16,0 | assert@9,1", 2, "assert not null p;"),
		inMain("assert[null p];", "isnull p@16 | assert@9,0", 1, "assert null p;"),
		inMain("assert null p and null q or null r;", "isnull p@16 | isnull q@27 | and@23,0,1 | isnull r@37 | or@34,2,3 | assert@9,4", 5,
			"assert null p and null q or null r;"),
		inMain("assert null p or null q and null r;", "isnull p@16 | isnull q@26 | isnull r@37 | and@33,1,2 | or@23,0,3 | assert@9,4", 5,
			"assert null p or null q and null r;"),
		inMain("assert a[1]<b[2];", "num 1@18 | elem a@16,0 | num 2@23 | elem b@21,2 | cmp 3@20,1,3 | assert@9,4", 5, "assert a[1] < b[2];"),
		inMain("assert[a[1]<2];", "num 1@18 | elem a@16,0 | num 2@21 | cmp 3@20,1,2 | assert@9,3", 4, "assert a[1] < 2;"),
	})
}

// allKinds is a program with every kind of node, and every form of the grammar.
const allKinds = `array a[10];
var g;
func add(x, y) {
return x;
}
func none() {
var i, j;
ref p;
ref q, r;
x = 1; x = null; x = &a[i]; x = add(); x = add(1); x = add(1, y); p += 2; a[i] = 3; *p = 4;
if x < 1 { stop; } else { }
if not [x == 1 or [null p and x != 2]] { }
while x <= 1 and y > 2 or not not x >= 3 { print x; }
for i = 0 .. 10 { read x; assert null p; }
x = 1 | 2 ^ 3 & 4 << 5 >> 6 + 7 - 8 +% 9 -% 10 * 11 / 12 % 13 *% 14;
x = -a[*p] + (y * -(1));
}
`

func TestParseEveryKind(t *testing.T) {
	met := map[int]int{}
	for _, node := range checkTree(t, allKinds) {
		met[node.Kind]++
	}
	for kind := impl.NdProgram; kind <= impl.NdIsNull; kind++ {
		if met[kind] == 0 {
			t.Errorf("no node is a %s", kindNames()[kind])
		}
	}
}

// A level's operators are joined from the left, and ahead of those of a lesser level.
func TestParseLevels(t *testing.T) {
	for low := 1; low <= 6; low++ {
		for high := low; high <= 6; high++ {
			for _, a := range levelSigns(low) {
				for _, b := range levelSigns(high) {
					checkJoined(t, a, b, low == high)
				}
			}
		}
	}
}

// checkJoined takes two operators, the second of which is of the greater level, or they are of the same.
func checkJoined(t *testing.T, a, b sign, same bool) {
	t.Helper()
	kids := func(term string) string {
		nodes := checkTree(t, "func f(){x="+term+";}")
		if len(nodes) != 9 {
			return ""
		}
		top := nodes[4]
		return strconv.Itoa(top.Num) + " of " + strconv.Itoa(top.Kids[0]) + " and " + strconv.Itoa(top.Kids[1])
	}
	written := func(term string) string {
		text, _ := impl.ParsePrint("func f(){x=" + term + ";}")
		return text
	}
	ab, ba := "1 "+a.text+" 2 "+b.text+" 3", "1 "+b.text+" 2 "+a.text+" 3"
	abWant := strconv.Itoa(a.num) + " of 0 and 3"
	if same {
		abWant = strconv.Itoa(b.num) + " of 2 and 3"
	}
	if got := kids(ab); got != abWant {
		t.Errorf("%s is %s", ab, got)
	}
	if got, want := kids(ba), strconv.Itoa(a.num)+" of 2 and 3"; got != want {
		t.Errorf("%s is %s, not %s", ba, got, want)
	}
	for _, term := range []string{ab, ba} {
		if got, want := written(term), "func f() {\nx = "+term+";\n}\n"; got != want {
			t.Errorf("%s is written down as %q", term, got)
		}
	}
}

// writtenCase is a term or a condition, and how it is written down.
type writtenCase struct {
	text    string
	written string
}

func checkWritten(t *testing.T, ahead string, cases []writtenCase) {
	t.Helper()
	for _, c := range cases {
		text := "func f(){" + ahead + " " + c.text + ";}"
		checkTree(t, text)
		if got, want := mustWrite(t, text), "func f() {\n"+ahead+" "+c.written+";\n}\n"; got != want {
			t.Errorf("%q is written down as %q, not %q", c.text, got, want)
		}
	}
}

// mustWrite is how a text is written down that must be read.
func mustWrite(t *testing.T, text string) string {
	t.Helper()
	written, fault := impl.ParsePrint(text)
	if fault != (impl.Fault{}) {
		t.Errorf("ParsePrint(%.90q), %d bytes: %v", text, len(text), fault)
	}
	return written
}

func TestParsePrintTerms(t *testing.T) {
	checkWritten(t, "print", []writtenCase{
		{"(1+2)*3", "(1 + 2) * 3"}, {"(1*2)+3", "1 * 2 + 3"}, {"1+(2*3)", "1 + 2 * 3"}, {"1*(2+3)", "1 * (2 + 3)"},
		{"(1+2)+3", "1 + 2 + 3"}, {"1+(2+3)", "1 + (2 + 3)"}, {"1*(2*3)", "1 * (2 * 3)"}, {"1-(2+%3)", "1 - (2 +% 3)"},
		{"1<<(2>>3)", "1 << (2 >> 3)"}, {"(1<<2)>>3", "1 << 2 >> 3"}, {"(1|2)&3", "(1 | 2) & 3"}, {"1|(2&3)", "1 | 2 & 3"},
		{"(1^2)|3", "1 ^ 2 | 3"}, {"1^(2|3)", "1 ^ (2 | 3)"}, {"((1|2))|(3)", "1 | 2 | 3"}, {"1|(2|3)", "1 | (2 | 3)"},
		{"-(1)", "-1"}, {"(-1)", "-1"}, {"(-1)+2", "-1 + 2"}, {"2+(-1)", "2 + -1"}, {"2-(-1)", "2 - -1"}, {"2*(-1)", "2 * -1"},
		{"(-1)*(-2)", "-1 * -2"}, {"-(1+2)", "-(1 + 2)"}, {"-(1*2)", "-(1 * 2)"}, {"-((1))", "-1"}, {"-(-(-1))", "---1"},
		{"-(-(1|2))", "--(1 | 2)"}, {"-(0-1)", "-(0 - 1)"}, {"(0-1)*2", "(0 - 1) * 2"}, {"2*(0-1)", "2 * (0 - 1)"}, {"(0-1)", "0 - 1"},
		{"2-(0-1)", "2 - (0 - 1)"}, {"0-0", "0 - 0"}, {"-0", "-0"}, {"-a[1]", "-a[1]"}, {"-(*p)", "-*p"}, {"(*p)*(*q)", "*p * *q"},
		{"a[(1+2)]", "a[1 + 2]"}, {"a[a[(a[1])]]", "a[a[a[1]]]"}, {"(a[1])", "a[1]"}, {"(a)*(b)", "a * b"}, {"1-%-2", "1 -% -2"},
		{"1*%(2*%3)*%4", "1 *% (2 *% 3) *% 4"}, {"1%(2/3)", "1 % (2 / 3)"}, {"2147483647", "2147483647"},
	})
}

func TestParsePrintConditions(t *testing.T) {
	checkWritten(t, "assert", []writtenCase{
		{"a<b", "a < b"}, {"(a)<(b)", "a < b"}, {"(a|1)<(-b)", "a | 1 < -b"}, {"a|1==b&c", "a | 1 == b & c"}, {"a!=-1", "a != -1"},
		{"[a<b]", "a < b"}, {"[[a<b]]", "a < b"}, {"not[a<b]", "not a < b"}, {"not[not a<b]", "not not a < b"}, {"[not a<b]", "not a < b"},
		{"not[null p]", "not null p"}, {"not[a<b and c<d]", "not [a < b and c < d]"}, {"not[a<b or c<d]", "not [a < b or c < d]"},
		{"[not a<b]and c<d", "not a < b and c < d"}, {"not a<b and c<d", "not a < b and c < d"}, {"not a<b or c<d", "not a < b or c < d"},
		{"[a<b and c<d]and e<f", "a < b and c < d and e < f"}, {"a<b and[c<d and e<f]", "a < b and [c < d and e < f]"},
		{"[a<b or c<d]or e<f", "a < b or c < d or e < f"}, {"a<b or[c<d or e<f]", "a < b or [c < d or e < f]"},
		{"[a<b or c<d]and e<f", "[a < b or c < d] and e < f"}, {"a<b and[c<d or e<f]", "a < b and [c < d or e < f]"},
		{"[a<b and c<d]or e<f", "a < b and c < d or e < f"}, {"a<b or[c<d and e<f]", "a < b or c < d and e < f"},
		{"[a<b or c<d]and[e<f or null p]", "[a < b or c < d] and [e < f or null p]"}, {"a<b and not[c<d]", "a < b and not c < d"},
	})
}

func TestParsePrintProgram(t *testing.T) {
	got := mustWrite(t, "var g; func main(){var i,j; ref p; while not[i<3 or j==-(1+2)]and null p{p=&a[i-(1-j)];} if 1<2{}else{x=f(1,(2));} }")
	want := "var g;\nfunc main() {\nvar i;\nvar j;\nref p;\nwhile not [i < 3 or j == -(1 + 2)] and null p {\np = &a[i - (1 - j)];\n}\nif 1 < 2 {\n} else {\nx = f(1, 2);\n}\n}\n"
	if got != want {
		t.Errorf("%q", got)
	}
}

// What follows a NAME and = tells which statement it is.
func TestParseWhatNameAndEqualsBegin(t *testing.T) {
	for _, c := range []struct {
		text string
		kind int
		kid  int
	}{
		{"x = &a[1];", impl.NdAddr, impl.NdUse}, {"x = & a [ 1 ] ;", impl.NdAddr, impl.NdUse}, {"x = f();", impl.NdCall, impl.NdUse},
		{"x = f # so\n (1);", impl.NdCall, impl.NdUse}, {"x = x(x);", impl.NdCall, impl.NdUse}, {"x = null;", impl.NdSet, impl.NdNull},
		{"x = f;", impl.NdSet, impl.NdVar}, {"x = f[1];", impl.NdSet, impl.NdElem}, {"x = (f);", impl.NdSet, impl.NdVar},
		{"x = *f;", impl.NdSet, impl.NdDeref}, {"x = a & b;", impl.NdSet, impl.NdOp}, {"x = nulls;", impl.NdSet, impl.NdVar},
		{"x = 1;", impl.NdSet, impl.NdNum}, {"x = -f;", impl.NdSet, impl.NdOp}, {"x += f;", impl.NdMove, impl.NdVar},
	} {
		nodes := checkTree(t, "func f(){"+c.text+"}")
		if len(nodes) < 5 {
			continue
		}
		node := nodes[len(nodes)-4]
		if kid := nodes[node.Kids[0]].Kind; node.Kind != c.kind || kid != c.kid {
			t.Errorf("%q is a %s of a %s", c.text, kindNames()[node.Kind], kindNames()[kid])
		}
	}
	checkWrongBody(t, impl.SrSyntax,
		"x = &@1;", "x = &a@;", "x = &a@(1);", "x = &a[1]@+1;", "x = &@*p;", "x = &@(a[1]);", "x = g(1)@+1;", "x = g()@[1];", "x = 1+g@(1);",
		"x = (g@(1));", "x = -g@();", "x = null@+1;", "x = (@null);", "x = null @p;", "x = 1+@null;", "x = 1@(2);", "x = *g@(1);", "x = g[1]@(2);",
		"x = @if;", "x = @= 1;", "x = @;", "x = g(g@(1));", "x = g(@null);", "x += @&a[1];", "x += g@(1);", "x += @null;", "a[1] = g@(1);",
		"a[1] = @null;", "*p = g@();", "*p = @null;", "print g@(1);", "return @null;", "x = g(1,@);", "x = g(@,1);")
}

// A term ends ahead of the first token that no operator joins to it.
func TestParseWhereTermsEnd(t *testing.T) {
	checkWrongBody(t, impl.SrSyntax,
		"x = 1 @2;", "x = 1 @y;", "x = y @z;", "x = y @1;", "x = 1+2 @3;", "x = 1@[2];", "x = (1)@[2];", "x = (y)@[2];", "x = a[1]@[2];", "x = *p@[1];",
		"x = 1 -% @;", "x = (1@;", "x = 1@);", "x = a[1@;", "x = 1@];", "x = (1@];", "x = a[1@);", "x = 1@", "x = 1@,2;", "x = 1 @= 2;", "x = y @+= 2;",
		"x = 1 @== 2;", "x = 1 @< 2;", "x = 1 @.. 2;", "x = 1 @and 2;", "x = 1 @not;", "x = 1 @{}", "x = @+1;", "x = @+%1;", "x = @-%1;", "x = 1 + @+ 2;",
		"x = 1 - @/ 2;", "x = 1 * * @2;", "x = 1 * *p * @;", "x = *@*p;", "x = *@(p);", "x = *@1;", "x = -@;", "x = - - @/;", "x = 1 & @&;", "x = (@);",
		"x = a[@];", "a[@] = 1;", "x = 1 @< 2;", "x = 1 <<@< 2;", "x = y @if;")
	for _, text := range []string{"x=y;*p=1;", "print 1;*p=1;", "x=1-1;", "x=1--1;", "x=1-1-1;", "for i=0..1{}", "for i=a[0]..*p{}", "while 1<*p{*p=1;}", "if a[1]<b[1]{a[1]=1;}"} {
		checkTree(t, "func f(){"+text+"}")
	}
}

// Brackets at the head of a last are those of a condition, behind a NAME those of a cell.
func TestParseBracketsOfConditions(t *testing.T) {
	for _, text := range []string{"[a<b]", "[a[1]<b]", "a[1]<b", "[a[1]<b[2]]", "[[a[b[1]]<b]]", "not[a[1]<b]", "not a[1]<b", "a<b and[a<b]", "a<b[1]and[a<b]", "[a<b]or a[1]<b"} {
		checkTree(t, "func f(){if "+text+"{}}")
	}
	checkWrongBody(t, impl.SrSyntax,
		"if a@{}", "if [a@]<b{}", "if [a<b]@<c{}", "if [a<b]@[1]{}", "if a<@[b]{}", "if [a<b@{}", "if a<b@]{}", "if (a@<b){}", "if [@]{}", "if @{}",
		"if not @{}", "if a<b @c<d{}", "if a<b and @and c<d{}", "if a<b or @{}", "if @or a<b{}", "if a<b@<c{}", "if a@=b{}", "if null @1{}",
		"if null p@==1{}", "if null p@[1]{}", "if null @(p){}", "if p == @null{}", "if a == @not b{}", "if (@[a<b]){}", "if -@[a<b]{}", "x = @[1];",
		"if [null p@;]{}", "if a < b @.. c {}", "if null p @else {}", "assert a@;")
}

func TestParseWrongDeclarations(t *testing.T) {
	checkWrong(t, impl.SrSyntax,
		"@x", "@1", "@;", "@ref p;", "@{}", "@stop;", "@null", "@else", "array @;", "array @1;", "array @if[1];", "array a@;", "array a@(1);",
		"array a[@];", "array a[@n];", "array a[@-1];", "array a[@(1)];", "array a[1@;", "array a[1@+1];", "array a[1]@", "array a[1] @var g;",
		"array a[1];@;", "var @;", "var @1;", "var g@,h;", "var g@[1];", "var g @= 1;", "var g; @g;", "func @(){}", "func @1(){}", "func f@{}",
		"func f(@,){}", "func f(a @b){}", "func f(a,@){}", "func f(a,@1){}", "func f(@1){}", "func f(@var a){}", "func f(a@[]){}", "func f()@;",
		"func f() @stop;", "func f() @var i; {}", "func f(){}@}", "func f(){}@;", "func f(){@func g(){}}", "func f(){@array a[1];}", "func f(){var @;}",
		"func f(){var i @j;}", "func f(){var i,@;}", "func f(){var i@=1;}", "func f(){var i@}", "func f(){ref @1;}", "func f(){ref p@[1];}",
		"func f(){stop;@var i;}", "func f(){stop;@ref p;}", "func f(){if a<b{@var i;}}", "func f(){@{}}", "func f(){@;}", "func f(){stop;@;}",
		"func f(){@,}", "func f(){@)", "func f(){@]")
}

func TestParseWrongStatements(t *testing.T) {
	checkWrongBody(t, impl.SrSyntax,
		"x@;", "x@", "x @y;", "x@(1);", "x @== 1;", "x @+ 1;", "x@-%1;", "@1 = x;", "@-x;", "@(x) = 1;", "@&a[1];", "@[x<1];", "a[1]@;", "a[1] @+= 1;",
		"a[1 @= 1;", "a[1]@[2] = 1;", "a[1] = 1@", "*@;", "*@*p = 1;", "*@(p) = 1;", "*p @+= 1;", "*p@[1] = 1;", "*p = 1@", "x += @;", "x += 1@",
		"if null p @stop;", "if null p {@else}", "if null p {} else @if null p {}", "if null p {} else @;", "if null p {} else {} @else {}", "@else {}",
		"if null p {}@;", "while null p @;", "while null p {} @else {}", "while @{}", "for @1 = 0 .. 1 {}", "for i @0 .. 1 {}", "for i @+= 0 .. 1 {}",
		"for i@[0] = 0 .. 1 {}", "for i = @.. 1 {}", "for i = 0 @1 {}", "for i = 0 .. @{}", "for i = 0 .. 1 @.. 2 {}", "for i = 0 .. 1@;",
		"for i = @null .. 1 {}", "for i = g@(1) .. 1 {}", "for i = 0@; i", "for @var i = 0 .. 1 {}", "read @;", "read @1;", "read x@,y;", "read a@[1];",
		"read @*p;", "read x@", "print @;", "print 1@,2;", "print 1@", "print 1 @< 2;", "print @not 1;", "assert @;", "assert 1@;", "assert 1 < 2@",
		"assert 1 < 2@,3;", "stop@", "stop @1;", "return @;", "return 1@", "return @if;", "return 1 @return;", "@and;", "@or;", "@not x;", "@null p;",
		"@func;", "@array;", "@.. 1;", "@= 1;", "x = y @= 1;")
}

// The first of several that do not fit counts, also ahead of what is too deep.
func TestParseFirstWrongToken(t *testing.T) {
	checkWrong(t, impl.SrSyntax, "@} } )", "func f(){x = @; y = ;}", "func f(){@; ; x}", "func f(){x = @; y = "+strings.Repeat("(", 20), "@"+strings.Repeat("(", 20),
		"func f(){x = 1 @2 3 4;}", "func f(){x = @]"+strings.Repeat("(", 20)+";}")
	checkWrong(t, impl.SrDeep, "func f(){x = "+strings.Repeat("(", 10)+"@; y = ;}", "func f(){x = "+strings.Repeat("(", 10)+"@)", "func f(){x = "+strings.Repeat("(", 10)+"@((((")
}

func TestParseTextsThatEndTooEarly(t *testing.T) {
	texts := []string{"func", "array", "array a", "array a[", "array a[1", "array a[1]", "var", "var g", "func f", "func f(", "func f(a", "func f(a,",
		"func f()", "func f(){}array"}
	for _, body := range []string{"", "var", "var i", "var i,", "var i;", "x", "x=", "x=1", "x=g", "x=g(", "x=g(1", "x=g(1,", "x=g()", "x=&", "x=&a", "x=&a[",
		"x=&a[1", "x=&a[1]", "x=null", "x=-", "x=(", "x=(1", "x=a[", "x=a[1", "x=*", "x=1+", "x+=", "x+=1", "a[", "a[1", "a[1]", "a[1]=", "*", "*p", "*p=",
		"if", "if not", "if [", "if [1<2", "if null", "if null p", "if x", "if x<", "if x<1", "if null p and", "if null p or", "if null p{", "if null p{}",
		"if null p{}else", "if null p{}else{", "while", "while null p", "while null p{", "for", "for i", "for i=", "for i=0", "for i=0..", "for i=0..1",
		"for i=0..1{", "read", "read x", "print", "print 1", "assert", "assert null p", "stop", "stop;", "return", "return 1"} {
		texts = append(texts, "func f(){"+body)
	}
	for _, text := range texts {
		for _, ending := range []string{"", " ", "\n\n", " # so", "# so\n", "#"} {
			checkRefused(t, text+ending, impl.Fault{Code: impl.SrSyntax, At: len(text + ending)})
		}
	}
}

func TestParseTokensFaults(t *testing.T) {
	checkWrong(t, impl.SrByte, "func f(){x = @!;}", "x@\t", "@é", "} ; @~", "func f(){x = "+strings.Repeat("(", 20)+"@!")
	checkWrong(t, impl.SrName, "@abcdefghi", "var @abcdefghi;", "} @abcdefghi")
	checkWrong(t, impl.SrNumber, "array a[@00];", "array a[@2147483648];", "func f(){x = @01;}", "; @007")
	checkWrong(t, impl.SrMany, strings.Repeat("var g;", 233)+"var @g;", strings.Repeat(";", 700)+"@;")
	checkWrong(t, impl.SrLong, "@"+strings.Repeat(" ", 3001), "@"+strings.Repeat(";", 3001), "@"+strings.Repeat("var g;\n", 500))
}

// nest is a program whose depth at the mark @ is so many, by one way to nest.
type nest struct {
	way  string
	text func(depth int) string
}

// nested are the ways to nest.
func nested() []nest {
	statement := func(ahead, open, mark, end, behind string) func(int) string {
		return func(depth int) string {
			return "func f(){" + ahead + strings.Repeat(open, depth-1) + mark + strings.Repeat(end, depth-1) + behind + "}"
		}
	}
	return []nest{
		{"parentheses", statement("x=", "(", "@1", ")", ";")},
		{"cells", statement("x=", "a[", "@1", "]", ";")},
		{"minus", statement("x=", "-", "@1", "", ";")},
		{"minus, a blank", statement("x=", "- ", "@y", "", ";")},
		{"not", statement("assert ", "not ", "@1<2", "", ";")},
		{"not of null", statement("assert ", "not ", "@null p", "", ";")},
		{"brackets", statement("assert ", "[", "@1<2", "]", ";")},
		{"brackets of cells", statement("assert ", "[", "@a<2", "]", ";")},
		{"if", statement("", "if 1<2{", "@stop;", "}", "")},
		{"if, empty", statement("", "if 1<2{", "@", "}", "")},
		{"while", statement("", "while 1<2{", "@", "}", "")},
		{"for", statement("", "for i=0..1{", "@", "}", "")},
		{"second term", statement("x=1+", "(", "@1", ")", "+1;")},
		{"behind others", statement("x=-1+(1)+a[1]+", "(", "@1", ")", ";")},
		{"behind other conditions", statement("assert not 1<2 and [1<2] and ", "[", "@1<2", "]", ";")},
		{"behind other blocks", statement("if 1<2{while 1<2{}}else{}", "if 1<2{", "@", "}", "")},
		{"within a call", statement("x=g(1,", "(", "@1", ")", ");")},
		{"within a left side", statement("b[", "(", "@1", ")", "]=1;")},
		{"behind &", statement("x=&b[", "(", "@1", ")", "];")},
		{"second of a comparison", statement("assert 1<", "(", "@1", ")", ";")},
		{"first of a for", statement("for i=", "(", "@1", ")", "..1{}")},
	}
}

func TestParseDepth(t *testing.T) {
	for _, n := range nested() {
		for depth := 1; depth <= 10; depth++ {
			checkTree(t, strings.Replace(n.text(depth), "@", "", 1))
		}
		for depth := 11; depth <= 14; depth++ {
			want, _, _ := strings.Cut(n.text(11), "@")
			text := strings.Replace(n.text(depth), "@", "", 1)
			checkRefused(t, text, impl.Fault{Code: impl.SrDeep, At: len(want)})
		}
		ahead, behind, _ := strings.Cut(n.text(11), "@")
		checkWrong(t, impl.SrDeep, ahead+"@", ahead+"# so\n  @"+behind, ahead+" @else", ahead+" @..", ahead+" @,;")
		for _, ending := range []string{" ", "\n", "# so", "# so\n"} {
			checkRefused(t, ahead+ending, impl.Fault{Code: impl.SrDeep, At: len(ahead + ending)})
		}
		shallow, _, _ := strings.Cut(n.text(10), "@")
		checkWrong(t, impl.SrSyntax, shallow+"@", shallow+"@else", shallow+"@..", shallow+"@,;")
	}
}

// Ways to nest count together, and what is left again counts no more.
func TestParseDepthOfSeveralWays(t *testing.T) {
	for _, text := range []string{
		"func f(){if 1<2{while 1<2{for i=0..1{assert not[not[1<-a[1]]];}}}}",
		"func f(){if 1<2{while 1<2{for i=0..1{assert not[not[(-1)<-a[1]]];}}}x=---------1;}",
		"func f(){" + strings.Repeat("if 1<2{}else{", 9) + strings.Repeat("}", 10),
		"func f(){x=---------1+---------1;a[---------1]=---------1;x=g(---------1,---------1);x=&a[---------1];}",
		"func f(){assert not not[1<2]and not not[1<------1]or[[[[[[[[[1<2]]]]]]]]];}",
		"func f(){}func g(){x=(((((((((1)))))))));}func h(){x=(((((((((1)))))))));}",
		"array a[1];func f(a,b){var i;a[a[((((((((1))))))))]]=1;x=g(a[((((((((1))))))))]);*p=a[((((((((1))))))))];}",
	} {
		checkTree(t, text)
	}
	checkWrong(t, impl.SrDeep,
		"func f(){"+strings.Repeat("if 1<2{}else{", 9)+"if 1<2{@}else{", "func f(){"+strings.Repeat("if 1<2{}else{", 9)+"while 1<2{@}",
		"func f(){if 1<2{while 1<2{for i=0..1{assert not[not[1<-a[(@1)]]];}}}}",
		"func f(){x=---------1+----------@1;}", "func f(){a[----------@1]=1;}", "func f(){x=g(1,----------@1);}", "func f(){x=&a[----------@1];}",
		"func f(){assert 1<2 or not[[[[[[[[[@1<2]]]]]]]]];}", "func f(){x=-(-(-(-(-(@1)))));}", "func f(){x=a[a[a[a[a[(((((@1)))))]]]]];}")
}

// longLine is a function of that name whose one term has so many names of 8 bytes.
func longLine(name string, count int) string {
	return "func " + name + "(){x=" + strings.Repeat("abcdefgh+", count-1) + "abcdefgh;}"
}

func TestParsePrintTooLong(t *testing.T) {
	for _, c := range []struct {
		name  string
		count int
		size  int
	}{{"f", 1, 27}, {"f", 200, 2216}, {"ffff", 271, 3000}, {"fffff", 271, 3001}, {"f", 331, 3657}} {
		text := longLine(c.name, c.count)
		checkTree(t, text)
		written := mustWrite(t, text)
		want := "func " + c.name + "() {\nx = " + strings.Repeat("abcdefgh + ", c.count-1) + "abcdefgh;\n}\n"
		if written != want || len(written) != c.size {
			t.Errorf("%d bytes are written down as %d bytes, not %d: %.90q", len(text), len(written), c.size, written)
		}
		if c.size > 3000 {
			checkRefused(t, written, impl.Fault{Code: impl.SrLong})
		}
	}
}

// Names that share a var are more tokens when each has its own.
func TestParsePrintTooManyTokens(t *testing.T) {
	text := "func f(){var a" + strings.Repeat(",a", 345) + ";}"
	checkTree(t, text)
	written := mustWrite(t, text)
	if want := "func f() {\n" + strings.Repeat("var a;\n", 346) + "}\n"; written != want {
		t.Errorf("%q", written)
	}
	checkRefused(t, written, impl.Fault{Code: impl.SrMany, At: 11 + 231*7 + 5})
}
