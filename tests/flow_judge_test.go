package tests

import (
	"slices"
	"strconv"
	"strings"

	"loop.example/sedge/impl"
)

// flowRules are a second reading of chapter 6, word for word: what is done, in order, to lay a node from p to q, or
// from p, to y and z. "new" and "head" make a point; "lay" lays the kid of a number between two points, or from one
// to two; all else is an edge, its kind (and Arg), From and To.
func flowRules() map[string]string {
	return map[string]string{
		"func":   "new a; new b; lay 0 a b; return b b",
		"empty":  "skip p q",
		"if":     "new y; lay 0 p y q; lay 1 y q",
		"else":   "new y; new z; lay 0 p y z; lay 1 y q; lay 2 z q",
		"while":  "head h; new y; skip p h; lay 0 h y q; lay 1 y h",
		"for":    "head h; new y; init p h; test=1 h y; test=0 h q; new z; lay 2 y z; next z h",
		"assert": "new z; lay 0 p q z; fail z z",
		"return": "return p p",
		"stop":   "stop p p",
		"call":   "call p q",
		"not":    "lay 0 p z y",
		"and":    "new m; lay 0 p m z; lay 1 m y z",
		"or":     "new m; lay 0 p y m; lay 1 m y z",
		"cmp":    "guard=1 p y; guard=0 p z",
		"isnull": "guard=1 p y; guard=0 p z",
		"do":     "do p q",
	}
}

// edgeKinds are the kinds of edges by their numbers.
func edgeKinds() []string {
	return strings.Fields("- skip do guard fail call return stop init test next")
}

// flowTask is one deed of a rule that waits to be done, the node for which it is (-1 for none), and the points that
// the letters of the rule stand for.
type flowTask struct {
	node   int
	deed   string
	points map[string]int
}

// flowJudge lays tasks from the front of a list, and puts what comes of each ahead of the others.
type flowJudge struct {
	nodes []impl.Node
	table impl.Table
	rules map[string]string
	fn    int
	tasks []flowTask
	flow  impl.Flow
}

// judgeFlow is what FlowOf must tell.
func judgeFlow(text string) (impl.Flow, impl.Fault) {
	table, fault := judgeNames(text)
	if fault != (impl.Fault{}) {
		return impl.Flow{}, fault
	}
	nodes, _ := impl.ParseTree(text)
	j := &flowJudge{nodes: nodes, table: table, rules: flowRules()}
	for fn, f := range table.Funcs {
		j.fn = fn
		j.flow.Entry = append(j.flow.Entry, len(j.flow.Owner))
		j.put(-1, "func", []int{f.Body}, map[string]int{})
		for len(j.tasks) > 0 {
			task := j.tasks[0]
			j.tasks = j.tasks[1:]
			j.do(task)
		}
	}
	return j.flow, impl.Fault{}
}

// put puts the deeds of a rule, for a node with such kids, ahead of all other tasks.
func (j *flowJudge) put(node int, rule string, kids []int, points map[string]int) {
	var list []flowTask
	for _, deed := range strings.Split(j.rules[rule], "; ") {
		words := strings.Fields(deed)
		if words[0] == "lay" {
			at, _ := strconv.Atoi(words[1])
			words[1] = strconv.Itoa(kids[at])
		}
		list = append(list, flowTask{node, strings.Join(words, " "), points})
	}
	j.tasks = append(list, j.tasks...)
}

func (j *flowJudge) do(task flowTask) {
	words := strings.Fields(task.deed)
	switch words[0] {
	case "new", "head":
		task.points[words[1]] = len(j.flow.Owner)
		j.flow.Owner = append(j.flow.Owner, j.fn)
		j.flow.Head = append(j.flow.Head, words[0] == "head")
	case "lay":
		node, _ := strconv.Atoi(words[1])
		var ends []int
		for _, letter := range words[2:] {
			ends = append(ends, task.points[letter])
		}
		j.layNode(node, ends)
	default:
		j.edge(task, words)
	}
}

// layNode puts what a node, from a point to one or two, is made of.
func (j *flowJudge) layNode(place int, ends []int) {
	node := j.nodes[place]
	points := map[string]int{"p": ends[0]}
	for i, letter := range []string{"", "q", "yz"}[len(ends)-1] {
		points[string(letter)] = ends[i+1]
	}
	rule := kindNames()[node.Kind]
	switch {
	case rule == "block" && len(node.Kids) > 0:
		j.putBlock(node.Kids, points)
		return
	case rule == "block":
		place, rule = -1, "empty"
	case rule == "if" && len(node.Kids) == 3:
		rule = "else"
	case j.rules[rule] == "":
		rule = "do"
	}
	j.put(place, rule, node.Kids, points)
}

// putBlock puts the statements of a block: a point is made for each but the last one.
func (j *flowJudge) putBlock(kids []int, points map[string]int) {
	var list []flowTask
	from := "p"
	for i, kid := range kids {
		to := "q"
		if i < len(kids)-1 {
			to = "s" + strconv.Itoa(i)
			list = append(list, flowTask{-1, "new " + to, points})
		}
		list = append(list, flowTask{-1, "lay " + strconv.Itoa(kid) + " " + from + " " + to, points})
		from = to
	}
	j.tasks = append(list, j.tasks...)
}

func (j *flowJudge) edge(task flowTask, words []string) {
	kind, arg, _ := strings.Cut(words[0], "=")
	edge := impl.Edge{From: task.points[words[1]], To: task.points[words[2]], Kind: slices.Index(edgeKinds(), kind), Node: task.node}
	edge.Arg, _ = strconv.Atoi(arg)
	switch kind {
	case "skip":
		edge.Node = -1
	case "call":
		use := j.nodes[j.nodes[task.node].Kids[0]].Name
		edge.Arg = slices.IndexFunc(j.table.Funcs, func(f impl.Func) bool { return f.Name == use })
	}
	j.flow.Edges = append(j.flow.Edges, edge)
}

// judgeDeep is what FlowDeep must tell, found in the tree: which function calls which, by however many others.
func judgeDeep(text string) []bool {
	table, fault := judgeNames(text)
	if fault != (impl.Fault{}) {
		return nil
	}
	nodes, _ := impl.ParseTree(text)
	var calls [6][6]bool
	for fn, f := range table.Funcs {
		for called, other := range table.Funcs {
			calls[fn][called] = slices.Contains(usesBelow(nodes, f.Body), other.Name)
		}
	}
	for by := range calls {
		for fn := range calls {
			for called := range calls {
				calls[fn][called] = calls[fn][called] || calls[fn][by] && calls[by][called]
			}
		}
	}
	deep := make([]bool, len(table.Funcs))
	for fn := range deep {
		for by := range deep {
			deep[fn] = deep[fn] || calls[by][by] && (by == fn || calls[by][fn])
		}
	}
	return deep
}

// usesBelow are the names of what is called, or has its address taken, below a node.
func usesBelow(nodes []impl.Node, place int) []string {
	var list []string
	if nodes[place].Kind == impl.NdUse {
		list = append(list, nodes[place].Name)
	}
	for _, kid := range nodes[place].Kids {
		list = append(list, usesBelow(nodes, kid)...)
	}
	return list
}
