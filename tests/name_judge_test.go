package tests

import (
	"slices"
	"strings"

	"loop.example/sedge/impl"
)

// nameJudge is a second reading of chapter 4. It gathers all that may be wrong with a tree, in the order in
// which it is looked for, and looks each name up in the lists of the tree itself.
type nameJudge struct {
	nodes  []impl.Node
	faults []impl.Fault
}

// judgeNames is what NameTable must tell of a text.
func judgeNames(text string) (impl.Table, impl.Fault) {
	nodes, fault := impl.ParseTree(text)
	if fault != (impl.Fault{}) {
		return impl.Table{}, fault
	}
	j := &nameJudge{nodes: nodes}
	j.declarations()
	j.locals()
	j.main()
	j.blocks()
	if len(j.faults) > 0 {
		return impl.Table{}, j.faults[0]
	}
	return j.table(), impl.Fault{}
}

func (j *nameJudge) wrong(code int, node impl.Node) {
	j.faults = append(j.faults, impl.Fault{Code: code, At: node.At})
}

// kids are the nodes below a node that are of the kinds, of any when there are none.
func (j *nameJudge) kids(node impl.Node, kinds ...int) []impl.Node {
	var list []impl.Node
	for _, kid := range node.Kids {
		if len(kinds) == 0 || slices.Contains(kinds, j.nodes[kid].Kind) {
			list = append(list, j.nodes[kid])
		}
	}
	return list
}

func (j *nameJudge) root() impl.Node {
	return j.nodes[len(j.nodes)-1]
}

func namesOf(nodes []impl.Node) []string {
	var list []string
	for _, node := range nodes {
		list = append(list, node.Name)
	}
	return list
}

// ofKinds are how many of the nodes are of the kinds.
func ofKinds(nodes []impl.Node, kinds ...int) int {
	count := 0
	for _, node := range nodes {
		if slices.Contains(kinds, node.Kind) {
			count++
		}
	}
	return count
}

func (j *nameJudge) declarations() {
	all := j.kids(j.root())
	for i, node := range all {
		if slices.Contains(namesOf(all[:i]), node.Name) {
			j.wrong(impl.SrTwice, node)
		}
		most := map[int]int{impl.NdArray: 4, impl.NdGlobal: 4, impl.NdFunc: 6}[node.Kind]
		if ofKinds(all[:i+1], node.Kind) > most || node.Kind == impl.NdArray && (node.Num == 0 || node.Num > 64) {
			j.wrong(impl.SrLimit, node)
		}
	}
}

func (j *nameJudge) locals() {
	for _, f := range j.kids(j.root(), impl.NdFunc) {
		all := j.kids(f, impl.NdParam, impl.NdLocal, impl.NdRef)
		for i, node := range all {
			if slices.Contains(namesOf(all[:i]), node.Name) || slices.Contains(namesOf(j.kids(j.root())), node.Name) {
				j.wrong(impl.SrTwice, node)
			}
			upTo := all[:i+1]
			if ofKinds(upTo, impl.NdRef) > 3 || ofKinds(upTo, impl.NdParam, impl.NdLocal) > 8 || ofKinds(upTo, impl.NdParam) > 3 {
				j.wrong(impl.SrLimit, node)
			}
		}
	}
}

func (j *nameJudge) main() {
	for _, f := range j.kids(j.root(), impl.NdFunc) {
		if f.Name == "main" && len(j.kids(f, impl.NdParam)) == 0 {
			return
		}
	}
	j.wrong(impl.SrMain, impl.Node{})
}

// letter is what a name stands for in a function: i an int, r a ref, a an array, g a global, f a function, or nothing.
func (j *nameJudge) letter(f impl.Node, name string) string {
	for _, node := range append(j.kids(f, impl.NdParam, impl.NdLocal, impl.NdRef), j.kids(j.root())...) {
		if node.Name == name {
			return map[int]string{impl.NdParam: "i", impl.NdLocal: "i", impl.NdRef: "r", impl.NdArray: "a", impl.NdGlobal: "g", impl.NdFunc: "f"}[node.Kind]
		}
	}
	return ""
}

func (j *nameJudge) blocks() {
	for _, f := range j.kids(j.root(), impl.NdFunc) {
		j.judge(f, j.kids(f, impl.NdBlock)[0], nil)
	}
}

// judge goes over a node that stands below others, the one just above it last, and then over those below it.
func (j *nameJudge) judge(f, node impl.Node, above []impl.Node) {
	wanted, looks := j.wanted(f, node, above)
	if wanted != "" {
		j.judgeName(f, node, wanted, above)
	}
	if node.Kind == impl.NdUse && above[len(above)-1].Kind == impl.NdCall {
		j.judgeTerms(node, above[len(above)-1])
	}
	if node.Kind == impl.NdNull && j.letter(f, above[len(above)-1].Name) != "r" {
		j.wrong(impl.SrKind, node)
	}
	if looks {
		for _, kid := range j.kids(node) {
			j.judge(f, kid, append(slices.Clone(above), node))
		}
	}
}

// wanted are the letters that the name of a node may have, and whether what is below it is looked at.
func (j *nameJudge) wanted(f, node impl.Node, above []impl.Node) (string, bool) {
	switch node.Kind {
	case impl.NdVar, impl.NdRead, impl.NdCall:
		return "ig", true
	case impl.NdElem, impl.NdStore:
		return "a", true
	case impl.NdDeref, impl.NdPut, impl.NdMove, impl.NdIsNull, impl.NdAddr:
		return "r", true
	case impl.NdFor:
		return "i", true
	case impl.NdUse:
		return map[int]string{impl.NdAddr: "a", impl.NdCall: "f"}[above[len(above)-1].Kind], true
	case impl.NdSet:
		if j.letter(f, node.Name) != "r" {
			return "ig", true
		}
		term := j.kids(node)[0]
		if term.Kind == impl.NdNull || term.Kind == impl.NdVar && j.letter(f, term.Name) == "r" {
			return "r", false
		}
		return "ig", false
	}
	return "", true
}

func (j *nameJudge) judgeName(f, node impl.Node, wanted string, above []impl.Node) {
	letter := j.letter(f, node.Name)
	sets := slices.Contains([]int{impl.NdRead, impl.NdCall, impl.NdFor, impl.NdSet}, node.Kind)
	busy := slices.ContainsFunc(above, func(a impl.Node) bool { return a.Kind == impl.NdFor && a.Name == node.Name })
	switch {
	case letter == "":
		j.wrong(impl.SrNone, node)
	case !strings.Contains(wanted, letter) || sets && busy:
		j.wrong(impl.SrKind, node)
	}
}

func (j *nameJudge) judgeTerms(use, call impl.Node) {
	for _, f := range j.kids(j.root(), impl.NdFunc) {
		if f.Name == use.Name && len(j.kids(f, impl.NdParam)) != len(call.Kids)-1 {
			j.wrong(impl.SrArgs, use)
		}
	}
}

func (j *nameJudge) table() impl.Table {
	t := impl.Table{Globals: namesOf(j.kids(j.root(), impl.NdGlobal))}
	for _, a := range j.kids(j.root(), impl.NdArray) {
		t.Arrays = append(t.Arrays, impl.Array{Name: a.Name, Size: a.Num})
	}
	for _, f := range j.kids(j.root(), impl.NdFunc) {
		params, locals := j.kids(f, impl.NdParam), j.kids(f, impl.NdLocal)
		t.Funcs = append(t.Funcs, impl.Func{
			Name:   f.Name,
			Params: len(params),
			Ints:   namesOf(append(params, locals...)),
			Refs:   namesOf(j.kids(f, impl.NdRef)),
			Body:   f.Kids[len(f.Kids)-1],
		})
	}
	return t
}
