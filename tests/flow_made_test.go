package tests

import (
	"math"
	"slices"
	"strings"
	"testing"

	"loop.example/sedge/impl"
)

// checkPromise16: every point leads on by one edge, or by two that choose; edges stay within a function.
func checkPromise16(t *testing.T, text string, f impl.Flow) {
	t.Helper()
	if len(f.Head) != len(f.Owner) {
		t.Errorf("%.400q: of %d points %d may be heads", text, len(f.Owner), len(f.Head))
	}
	leaving := make([][]impl.Edge, len(f.Owner))
	for _, e := range f.Edges {
		if min(e.From, e.To) < 0 || max(e.From, e.To) >= len(f.Owner) || f.Owner[e.From] != f.Owner[e.To] {
			t.Errorf("%.400q: the edge %v leaves its function", text, e)
			return
		}
		leaving[e.From] = append(leaving[e.From], e)
	}
	for point, edges := range leaving {
		one := len(edges) == 1 && !chooses(edges[0])
		two := len(edges) == 2 && chooses(edges[0]) && edges[0].Kind == edges[1].Kind && edges[0].Node == edges[1].Node && edges[0].Arg == 1 && edges[1].Arg == 0
		if !one && !two {
			t.Errorf("%.400q: the point %d has the edges %v", text, point, edges)
		}
	}
	checkOwners(t, text, f)
}

// chooses says whether an edge is one of two.
func chooses(e impl.Edge) bool {
	return e.Kind == impl.FlGuard || e.Kind == impl.FlTest
}

// checkOwners: the functions' points stand one behind the other, each function's first one being where it begins.
func checkOwners(t *testing.T, text string, f impl.Flow) {
	t.Helper()
	table, _ := impl.NameTable(text)
	if len(f.Entry) != len(table.Funcs) || !slices.IsSorted(f.Owner) {
		t.Errorf("%.400q: entries %v and owners %v of %d functions", text, f.Entry, f.Owner, len(table.Funcs))
	}
	for fn, entry := range f.Entry {
		if entry != slices.Index(f.Owner, fn) {
			t.Errorf("%.400q: function %d begins at %d", text, fn, entry)
		}
	}
}

// checkPromise17: no way along edges comes back to its point but through a head, or by an edge that ends something.
func checkPromise17(t *testing.T, text string, f impl.Flow) {
	t.Helper()
	next := make([][]int, len(f.Owner))
	for _, e := range f.Edges {
		ends := e.Kind == impl.FlReturn || e.Kind == impl.FlStop || e.Kind == impl.FlFail
		if ends != (e.From == e.To) {
			t.Errorf("%.400q: the edge %v", text, e)
		}
		if !ends && !f.Head[e.From] && !f.Head[e.To] {
			next[e.From] = append(next[e.From], e.To)
		}
	}
	// Points from which no way leads on are taken away, until none is left, or only ways that come back.
	left := len(next)
	gone := make([]bool, len(next))
	for range next {
		for point, list := range next {
			if !gone[point] && !slices.ContainsFunc(list, func(to int) bool { return !gone[to] }) {
				gone[point] = true
				left--
			}
		}
	}
	if left > 0 {
		t.Errorf("%.400q: a way comes back without a head: %s", text, flowText(f))
	}
}

// checkPromise18: of a text, and of another one with the same tree, where it is taken, the graphs are the same.
func checkPromise18(t *testing.T, text, other string) bool {
	t.Helper()
	again, fault := impl.FlowOf(other)
	if _, notTaken := impl.NameTable(other); notTaken != fault {
		t.Errorf("FlowOf(%.400q) tells %v, not %v", other, fault, notTaken)
	}
	if fault != (impl.Fault{}) {
		return false
	}
	if flow, _ := impl.FlowOf(text); !sameFlow(flow, again) {
		t.Errorf("FlowOf(%q) is\n%s\nbut FlowOf(%q) is\n%s", text, flowText(flow), other, flowText(again))
	}
	return true
}

// takenTexts are texts that are taken, of all the kinds that are made.
func takenTexts(count int) []string {
	texts := []string{strings.ReplaceAll(example, "@", ""), allNames, everyDeed, inNamed("")}
	for _, p := range growPrograms(count) {
		texts = append(texts, p.text)
	}
	return append(texts, growLive(count)...)
}

func TestFlowOfMadePrograms(t *testing.T) {
	kinds, heads := map[int]int{}, 0
	for _, text := range takenTexts(700) {
		flow := checkFlow(t, text)
		for _, e := range flow.Edges {
			kinds[e.Kind]++
		}
		for _, head := range flow.Head {
			if head {
				heads++
			}
		}
	}
	for kind := impl.FlSkip; kind <= impl.FlNext; kind++ {
		if kinds[kind] < 200 {
			t.Error("too few edges of a kind", kinds)
		}
	}
	if heads < 1000 {
		t.Error("too few heads", heads)
	}
}

// Each statement and each condition that stands for itself has edges of its own, and no other node has any.
func TestFlowEveryNodeHasItsEdges(t *testing.T) {
	for _, text := range takenTexts(300) {
		nodes, _ := impl.ParseTree(text)
		flow, _ := impl.FlowOf(text)
		met := map[int]int{}
		for _, e := range flow.Edges {
			met[e.Node]++
		}
		for place, node := range nodes {
			want := 0
			switch {
			case node.Kind == impl.NdFor:
				want = 4
			case node.Kind == impl.NdCmp || node.Kind == impl.NdIsNull:
				want = 2
			case node.Kind >= impl.NdSet && node.Kind <= impl.NdCall && node.Kind != impl.NdIf && node.Kind != impl.NdWhile:
				want = 1
			}
			if met[place] != want {
				t.Fatalf("FlowOf(%q): the %s %d has %d edges, not %d", text, kindNames()[node.Kind], place, met[place], want)
			}
		}
	}
}

func TestPromise16EveryPointLeadsOn(t *testing.T) {
	for _, text := range takenTexts(400) {
		flow, _ := impl.FlowOf(text)
		checkPromise16(t, text, flow)
	}
}

func TestPromise17LoopsHaveHeads(t *testing.T) {
	loops := 0
	for _, text := range takenTexts(400) {
		flow, _ := impl.FlowOf(text)
		checkPromise17(t, text, flow)
		for point, head := range flow.Head {
			if head && comesBack(flow, point) {
				loops++
			}
		}
	}
	if loops < 500 {
		t.Error("too few loops", loops)
	}
}

// comesBack says whether a way along edges leads from a point to itself.
func comesBack(f impl.Flow, point int) bool {
	met := map[int]bool{}
	waiting := []int{point}
	for len(waiting) > 0 {
		at := waiting[0]
		waiting = waiting[1:]
		for _, e := range f.Edges {
			if e.From == at && !met[e.To] {
				met[e.To] = true
				waiting = append(waiting, e.To)
			}
		}
	}
	return met[point]
}

func TestPromise18GraphsDoNotHangOnLayout(t *testing.T) {
	d := newDice()
	taken := 0
	for _, text := range takenTexts(400) {
		written, _ := impl.ParsePrint(text)
		for _, other := range []string{written, relaid(d, text), relaid(d, written)} {
			if checkPromise18(t, text, other) {
				taken++
			}
		}
	}
	if taken < 1500 {
		t.Error("too few texts are taken", taken)
	}
}

func TestFlowOfSpoiltPrograms(t *testing.T) {
	d := newDice()
	met := map[int]int{}
	texts := sampleTexts()
	for _, p := range makePrograms(500) {
		texts = append(texts, p.text)
	}
	for _, p := range growPrograms(300) {
		texts = append(texts, spoilNames(d, p.text), spoilNames(d, p.text), p.text[:d.roll(len(p.text))])
	}
	for _, text := range texts {
		_, fault := judgeNames(text)
		met[fault.Code]++
		if fault == (impl.Fault{}) {
			checkFlow(t, text)
			continue
		}
		checkNoFlow(t, text, fault)
	}
	for _, code := range []int{0, impl.SrByte, impl.SrName, impl.SrNumber, impl.SrSyntax, impl.SrLimit, impl.SrTwice, impl.SrNone, impl.SrKind, impl.SrArgs, impl.SrMain} {
		if met[code] == 0 {
			t.Errorf("no text has the code %d: %v", code, met)
		}
	}
}

func TestFlowOutOfAnyFlow(t *testing.T) {
	d := newDice()
	points := []int{-1, 0, 1, 2, 3, 4, 5, -7, 1000, math.MaxInt, math.MinInt}
	for range 2000 {
		var f impl.Flow
		for range d.roll(12) {
			f.Edges = append(f.Edges, impl.Edge{From: pick(d, points), To: pick(d, points), Kind: d.roll(14) - 2, Node: pick(d, points), Arg: pick(d, points)})
		}
		f.Owner = make([]int, d.roll(6))
		for _, point := range points {
			checkOut(t, f, point)
		}
	}
}

// anyCalls is a program of six functions or fewer in which any call any.
func anyCalls(d *dice) string {
	letters := "mabcde"[:1+d.roll(6)]
	var functions []string
	for _, letter := range letters {
		f := string(letter)
		for range d.roll(3) {
			at := d.roll(len(letters))
			f += letters[at : at+1]
		}
		functions = append(functions, f)
	}
	return calling(functions...)
}

func TestFlowDeepOfMadePrograms(t *testing.T) {
	d := newDice()
	counts := map[bool]int{}
	for range 3000 {
		for _, deep := range checkDeep(t, anyCalls(d)) {
			counts[deep]++
		}
	}
	if counts[true] < 2000 || counts[false] < 2000 {
		t.Error("too few are deep, or are not", counts)
	}
}

// spoilt fills a list, spare room included.
func spoilt[T any](list []T, with T) {
	list = list[:cap(list)]
	for i := range list {
		list[i] = with
	}
}

// No list of an answer shares memory with another one, or with another answer, spare room included.
func TestFlowMemory(t *testing.T) {
	want, _ := impl.FlowOf(allNames)
	deep := impl.FlowDeep(allNames)
	spoil := []func(f impl.Flow){
		func(f impl.Flow) { spoilt(f.Owner, -9) },
		func(f impl.Flow) { spoilt(f.Entry, -9) },
		func(f impl.Flow) { spoilt(f.Head, true) },
		func(f impl.Flow) { spoilt(f.Edges, impl.Edge{From: -9}) },
	}
	for which, fill := range spoil {
		f, _ := impl.FlowOf(allNames)
		fill(f)
		same := []bool{slices.Equal(f.Owner, want.Owner), slices.Equal(f.Entry, want.Entry), slices.Equal(f.Head, want.Head), slices.Equal(f.Edges, want.Edges)}
		for other, ok := range same {
			if ok != (other != which) {
				t.Errorf("list %d when list %d is written into: %v", other, which, ok)
			}
		}
		if again, _ := impl.FlowOf(allNames); !sameFlow(again, want) {
			t.Error("one answer is written into by another one")
		}
	}
	spoilt(impl.FlowDeep(allNames), true)
	if again := impl.FlowDeep(allNames); !slices.Equal(again, deep) {
		t.Error("FlowDeep hangs on another answer", again)
	}
}

// The flow that is handed in stays as it is, spare room included, and two answers share nothing.
func TestFlowOutMemory(t *testing.T) {
	room := []impl.Edge{{From: 1, To: 2}, {From: 3}, {From: 1, To: 4}, {From: 1, To: 5}}
	kept := slices.Clone(room)
	f := impl.Flow{Edges: room[:3]}
	first, second := impl.FlowOut(f, 1), impl.FlowOut(f, 1)
	third := impl.FlowOut(f, 3)
	spoilt(first, 77)
	if !slices.Equal(second, []int{0, 2}) || !slices.Equal(third, []int{1}) || !slices.Equal(room, kept) {
		t.Error("memory is shared", second, third, room)
	}
}
