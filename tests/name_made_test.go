package tests

import (
	"slices"
	"strings"
	"testing"

	"loop.example/sedge/impl"
)

// allNames is a program with every kind of node in functions and every kind of name.
const allNames = `array a[10]; array b[64];
var g;
func add(x, y) { var i; ref r; for x = y .. i { y = x; } return g; }
var h;
func none() { stop; }
func main() {
var i, j;
ref p, q;
i = 1; p = null; p = q; p = &a[i]; j = add(i, -1); g = none(); p += 2; b[h] = a[j]; *q = 4;
if i < 1 { stop; } else { read h; }
while g <= 1 and j > 2 or not null q { print *p + j; }
for i = 0 .. 10 { read j; assert null p; for j = i .. g { h = i; g = main(); } }
return j;
}
`

// checkJudged holds NameTable against the second reading of the document.
func checkJudged(t *testing.T, text string) impl.Fault {
	t.Helper()
	_, fault := judgeNames(text)
	if fault == (impl.Fault{}) {
		checkTaken(t, text)
	} else {
		checkNotTaken(t, text, fault)
	}
	return fault
}

func TestNameHasEveryKind(t *testing.T) {
	table := checkTaken(t, allNames)
	nodes, _ := impl.ParseTree(allNames)
	kinds, names := map[int]int{}, map[int]int{}
	for _, node := range nodes {
		kinds[node.Kind]++
	}
	for _, f := range table.Funcs {
		for _, name := range namesBelow(nodes, f.Body) {
			kind, _ := impl.NameKind(table, f.Name, name)
			names[kind]++
		}
	}
	for kind := impl.NdProgram; kind <= impl.NdIsNull; kind++ {
		if kinds[kind] == 0 {
			t.Errorf("no node is a %s", kindNames()[kind])
		}
	}
	for kind := impl.NmArray; kind <= impl.NmFunc; kind++ {
		if names[kind] == 0 {
			t.Errorf("no name is a %d", kind)
		}
	}
}

// Each name of a program, one by one, is made each other one, and one that is none.
func TestNameEveryNameAtEveryPlace(t *testing.T) {
	tokens, _ := impl.LexTokens(allNames)
	others := strings.Fields("a b g h add none main i j p q x y r z")
	met := map[int]int{}
	for _, token := range tokens {
		if token.Kind != impl.TkName {
			continue
		}
		for _, other := range others {
			text := allNames[:token.At] + other + allNames[token.At+len(token.Text):]
			met[checkJudged(t, text).Code]++
		}
	}
	for _, code := range []int{0, impl.SrTwice, impl.SrNone, impl.SrKind, impl.SrArgs, impl.SrMain} {
		if met[code] == 0 {
			t.Errorf("no text has the code %d: %v", code, met)
		}
	}
}

func TestNameOfGrownPrograms(t *testing.T) {
	d := newDice()
	for _, p := range growPrograms(600) {
		for _, text := range []string{p.text, relaid(d, p.text)} {
			if _, fault := impl.LexTokens(text); fault != (impl.Fault{}) {
				continue
			}
			if table := checkTaken(t, text); !sameTable(placelessTable(table), p.table) {
				t.Errorf("NameTable(%q) is %q, not %q", text, tableText(table), tableText(p.table))
			}
		}
	}
}

// spoilNames is a program in which names are others, or one function stands for another, or more is declared.
func spoilNames(d *dice, text string) string {
	tokens, _ := impl.LexTokens(text)
	var texts []string
	var names, called []int
	for i, token := range tokens {
		texts = append(texts, token.Text)
		if token.Kind == impl.TkName {
			names = append(names, i)
		}
		if token.Kind == impl.TkName && tokens[i+1].Text == "(" {
			called = append(called, i)
		}
	}
	switch d.roll(6) {
	case 0:
		return pick(d, []string{"array again[0];", "array again[1];", "var again;"}) + text + pick(d, []string{"func main() { }", "func again(o) { return o; }", ""})
	case 1, 2:
		texts[pick(d, called)] = texts[pick(d, called)]
	case 3:
		texts[pick(d, names)] = "none"
		texts[pick(d, names)] = texts[pick(d, names)]
	default:
		texts[pick(d, names)] = texts[pick(d, names)]
	}
	return strings.Join(texts, pick(d, []string{" ", "\n"}))
}

func TestNameOfSpoiltPrograms(t *testing.T) {
	d := newDice()
	met := map[int]int{}
	for _, p := range growPrograms(600) {
		for range 4 {
			met[checkJudged(t, spoilNames(d, p.text)).Code]++
		}
	}
	for _, code := range []int{0, impl.SrLimit, impl.SrTwice, impl.SrNone, impl.SrKind, impl.SrArgs, impl.SrMain} {
		if met[code] < 5 {
			t.Errorf("too few texts have the code %d: %v", code, met)
		}
	}
}

// Programs of any names have, mostly, several faults.
func TestNameOfMadePrograms(t *testing.T) {
	for _, p := range makePrograms(1000) {
		checkJudged(t, p.text)
	}
}

// kindOf is what NameKind must tell, found by going through the lists.
func kindOf(t impl.Table, fn, name string) (int, int) {
	var arrays, funcs []string
	for _, array := range t.Arrays {
		arrays = append(arrays, array.Name)
	}
	for _, f := range t.Funcs {
		funcs = append(funcs, f.Name)
	}
	var f impl.Func
	if at := slices.Index(funcs, fn); at >= 0 {
		f = t.Funcs[at]
	}
	for _, list := range []struct {
		kind  int
		names []string
	}{{impl.NmInt, f.Ints}, {impl.NmRef, f.Refs}, {impl.NmArray, arrays}, {impl.NmGlobal, t.Globals}, {impl.NmFunc, funcs}} {
		if at := slices.Index(list.names, name); at >= 0 {
			return list.kind, at
		}
	}
	return 0, 0
}

func checkKind(t *testing.T, table impl.Table, fn, name string) {
	t.Helper()
	kind, place := impl.NameKind(table, fn, name)
	if wantKind, wantPlace := kindOf(table, fn, name); kind != wantKind || place != wantPlace {
		t.Errorf("NameKind(%v, %q, %q) is %d, %d, not %d, %d", table, fn, name, kind, place, wantKind, wantPlace)
	}
}

func TestNameKind(t *testing.T) {
	of := checkTaken(t, allNames)
	hides := impl.Table{
		Arrays:  []impl.Array{{Name: "n", Size: -1}, {Name: "a"}, {Name: "a"}},
		Globals: []string{"o", "n", "a", "g", "g"},
		Funcs: []impl.Func{
			{Name: "f", Params: 9, Ints: []string{"i", "n", "n", "r"}, Refs: []string{"q", "r", "n", "a", "g", "f"}, Body: -1},
			{Name: "f", Ints: []string{"w", "f"}},
			{Name: "g", Refs: []string{"w"}},
			{Name: "", Ints: []string{""}},
		},
	}
	for _, c := range []struct {
		table    impl.Table
		fn, name string
		kind, at int
	}{
		{of, "main", "i", impl.NmInt, 0}, {of, "main", "j", impl.NmInt, 1}, {of, "add", "i", impl.NmInt, 2},
		{of, "add", "x", impl.NmInt, 0}, {of, "main", "q", impl.NmRef, 1}, {of, "add", "r", impl.NmRef, 0},
		{of, "main", "b", impl.NmArray, 1}, {of, "add", "h", impl.NmGlobal, 1}, {of, "none", "main", impl.NmFunc, 2},
		{of, "add", "add", impl.NmFunc, 0}, {of, "gone", "a", impl.NmArray, 0}, {of, "", "none", impl.NmFunc, 1},
		{of, "main", "x", 0, 0}, {of, "gone", "i", 0, 0}, {of, "main", "z", 0, 0}, {of, "main", "", 0, 0},
		{of, "a", "x", 0, 0}, {impl.Table{}, "main", "main", 0, 0}, {impl.Table{}, "", "", 0, 0},
		{hides, "f", "n", impl.NmInt, 1}, {hides, "f", "r", impl.NmInt, 3}, {hides, "f", "a", impl.NmRef, 3},
		{hides, "f", "g", impl.NmRef, 4}, {hides, "f", "f", impl.NmRef, 5}, {hides, "f", "w", 0, 0},
		{hides, "g", "n", impl.NmArray, 0}, {hides, "g", "a", impl.NmArray, 1}, {hides, "g", "g", impl.NmGlobal, 3},
		{hides, "g", "f", impl.NmFunc, 0}, {hides, "gone", "g", impl.NmGlobal, 3}, {hides, "gone", "i", 0, 0},
		{hides, "", "", impl.NmInt, 0}, {hides, "f", "", impl.NmFunc, 3},
	} {
		kind, place := impl.NameKind(c.table, c.fn, c.name)
		if kind != c.kind || place != c.at {
			t.Errorf("NameKind of %q in %q is %d, %d, not %d, %d", c.name, c.fn, kind, place, c.kind, c.at)
		}
		checkKind(t, c.table, c.fn, c.name)
	}
}

// anyTable is a table that no text need have; its names are few, so that many are there twice.
func anyTable(d *dice) impl.Table {
	list := func() []string {
		var names []string
		for range d.roll(5) {
			names = append(names, pick(d, anyNames()))
		}
		return names
	}
	var t impl.Table
	for _, name := range list() {
		t.Arrays = append(t.Arrays, impl.Array{Name: name, Size: d.roll(100) - 10})
	}
	t.Globals = list()
	for _, name := range list() {
		t.Funcs = append(t.Funcs, impl.Func{Name: name, Params: d.roll(9) - 2, Ints: list(), Refs: list(), Body: d.roll(9) - 2})
	}
	return t
}

func anyNames() []string {
	return []string{"a", "b", "c", "d", "e", "f", "main", "", " ", "if", "abcdefghijk", "\xff\x00"}
}

func TestNameKindOfAnyTable(t *testing.T) {
	d := newDice()
	for range 3000 {
		table := anyTable(d)
		for _, name := range anyNames() {
			checkKind(t, table, pick(d, anyNames()), name)
		}
	}
}

func TestNameKindOfTextsTables(t *testing.T) {
	for _, p := range growPrograms(300) {
		table, _ := impl.NameTable(p.text)
		for _, f := range append(table.Funcs, impl.Func{Name: "gone"}) {
			for _, name := range strings.Fields("a b c d e f g h i j k l m n o p q r s t u v w x y z x1 abcdefgh iff nulls main0 main gone") {
				checkKind(t, table, f.Name, name)
			}
		}
	}
}

// The table that is handed in stays as it is, spare room included.
func TestNameKindLeavesTheTable(t *testing.T) {
	globals := []string{"g", "h", "spare"}
	ints := []string{"i", "spare"}
	table := impl.Table{Globals: globals[:2], Funcs: []impl.Func{{Name: "f", Ints: ints[:1]}}}
	for _, name := range []string{"g", "h", "i", "f", "spare", "z"} {
		checkKind(t, table, "f", name)
		checkKind(t, table, "gone", name)
	}
	if !slices.Equal(globals, []string{"g", "h", "spare"}) || !slices.Equal(ints, []string{"i", "spare"}) || table.Funcs[0].Name != "f" {
		t.Error("the table was written into", table)
	}
}

// No list of an answer shares memory with another one, or with another answer, spare room included.
func TestNameTableIsNewMemory(t *testing.T) {
	want, _ := impl.NameTable(allNames)
	table, _ := impl.NameTable(allNames)
	wipe := func(list []string) {
		list = list[:cap(list)]
		for i := range list {
			list[i] = "wiped"
		}
	}
	wipe(table.Globals)
	table.Globals = want.Globals
	for i := range table.Funcs {
		wipe(table.Funcs[i].Ints)
		table.Funcs[i].Ints = want.Funcs[i].Ints
		if !sameTable(table, want) {
			t.Fatalf("the ints of function %d share memory", i)
		}
		wipe(table.Funcs[i].Refs)
		table.Funcs[i].Refs = want.Funcs[i].Refs
		if !sameTable(table, want) {
			t.Fatalf("the refs of function %d share memory", i)
		}
	}
	for i := range table.Arrays[:cap(table.Arrays)] {
		table.Arrays[:cap(table.Arrays)][i] = impl.Array{}
	}
	for i := range table.Funcs[:cap(table.Funcs)] {
		table.Funcs[:cap(table.Funcs)][i] = impl.Func{}
	}
	if again, _ := impl.NameTable(allNames); !sameTable(again, want) {
		t.Error("one answer is written into by another one")
	}
}

func TestPromise10NoNameStandsForNothing(t *testing.T) {
	texts := []string{allNames, inNamed("")}
	for _, p := range growPrograms(500) {
		texts = append(texts, p.text)
	}
	for _, form := range nameForms() {
		for _, name := range strings.Fields("a b g h f k main i j p q z") {
			texts = append(texts, inNamed(strings.NewReplacer("NAME", name, "@", "").Replace(form.statement)))
		}
	}
	taken := 0
	for _, text := range texts {
		table, fault := impl.NameTable(text)
		if fault == (impl.Fault{}) {
			checkPromise10(t, text, table)
			taken++
		}
	}
	if taken < 600 {
		t.Error("too few are taken", taken)
	}
}

func TestPromise11LayoutDoesNotMatter(t *testing.T) {
	d := newDice()
	for _, p := range growPrograms(500) {
		checkPromise11(t, p.text)
		other := relaid(d, p.text)
		if _, fault := impl.LexTokens(other); fault != (impl.Fault{}) {
			continue
		}
		table, _ := impl.NameTable(p.text)
		if again, fault := impl.NameTable(other); fault != (impl.Fault{}) || !sameTable(again, table) {
			t.Errorf("NameTable(%q) is %q and %v, not %q", other, tableText(again), fault, tableText(table))
		}
	}
	for _, text := range []string{"", "func main(){}", allNames, allKinds, "func main(){var a,b;ref c,d;var e;}var f;array g[3];", inNamed("p = ((q)); i = - - 1;")} {
		checkPromise11(t, text)
	}
}
