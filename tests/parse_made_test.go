package tests

import (
	"slices"
	"strings"
	"testing"

	"loop.example/sedge/impl"
)

func TestParseOfMadePrograms(t *testing.T) {
	met := map[int]int{}
	for _, p := range makePrograms(4000) {
		nodes := checkTree(t, p.text)
		if !sameNodes(nodes, p.nodes) {
			t.Errorf("ParseTree(%q) is\n%s\nnot\n%s", p.text, treeText(nodes), treeText(p.nodes))
		}
		if written := mustWrite(t, p.text); written != p.lines {
			t.Errorf("ParsePrint(%q) is %q, not %q", p.text, written, p.lines)
		}
		for _, node := range nodes {
			met[node.Kind]++
		}
	}
	for kind := impl.NdProgram; kind <= impl.NdIsNull; kind++ {
		if met[kind] < 100 {
			t.Errorf("only %d nodes are a %s", met[kind], kindNames()[kind])
		}
	}
}

// pairs are the places of the parentheses, or brackets, that belong together.
func pairs(tokens []impl.Token, open, end string) [][2]int {
	var list [][2]int
	var waiting []int
	for i, token := range tokens {
		switch token.Text {
		case open:
			waiting = append(waiting, i)
		case end:
			last := len(waiting) - 1
			list = append(list, [2]int{waiting[last], i})
			waiting = waiting[:last]
		}
	}
	return list
}

// Parentheses and brackets that are written down are kept for a reason: without them it is another program, or none.
func TestParsePrintKeepsNoneInVain(t *testing.T) {
	left := 0
	for _, p := range makePrograms(1500) {
		tokens, fault := impl.LexTokens(p.lines)
		if fault != (impl.Fault{}) {
			continue
		}
		nodes, _ := impl.ParseTree(p.lines)
		for _, pair := range append(pairs(tokens, "(", ")"), pairs(tokens, "[", "]")...) {
			others := slices.Concat(tokens[:pair[0]], tokens[pair[0]+1:pair[1]], tokens[pair[1]+1:])
			text, _ := impl.LexJoin(others)
			again, fault := impl.ParseTree(text)
			if fault == (impl.Fault{}) && sameNodes(placeless(again), placeless(nodes)) {
				t.Errorf("%q needs not the signs at %d and %d", p.lines, tokens[pair[0]].At, tokens[pair[1]].At)
			}
			left++
		}
	}
	if left < 1000 {
		t.Error("too few signs are left out", left)
	}
}

// Every token that may stand at all, laid at every place of a program with all forms of the grammar.
func TestParseEveryTokenAtEveryPlace(t *testing.T) {
	g := newGrammar()
	tokens, _ := impl.LexTokens(allKinds)
	others, _ := impl.LexTokens(strings.Join(append(append(allWords(), allSigns()...), "x", "7"), " "))
	sets := g.begin()
	for _, token := range tokens {
		ahead := allKinds[:token.At]
		checkRefusedAs(t, ahead, g.faultFrom(sets, nil, len(ahead)))
		for _, other := range others {
			text := ahead + " " + other.Text + " "
			other.At = len(ahead) + 1
			checkRefusedAs(t, text, g.faultFrom(sets, []impl.Token{other}, len(text)))
		}
		next, ok := g.feed(sets, token)
		if !ok {
			t.Fatalf("%q does not fit at %d", token.Text, token.At)
		}
		sets = next
	}
	checkRefusedAs(t, allKinds, g.faultFrom(sets, nil, len(allKinds)))
}

// checkRefusedAs holds what is told of a text against a fault, or against none.
func checkRefusedAs(t *testing.T, text string, want impl.Fault) {
	t.Helper()
	if want == (impl.Fault{}) {
		checkTree(t, text)
		return
	}
	checkRefused(t, text, want)
}

// spoil is a list of tokens' texts with something changed in it.
func spoil(d *dice, texts, others []string) []string {
	at := d.roll(len(texts))
	other := pick(d, others)
	switch d.roll(6) {
	case 0:
		return slices.Delete(texts, at, at+1)
	case 1:
		return slices.Insert(texts, at, other)
	case 2:
		texts[at] = other
	case 3:
		return texts[:at]
	case 4:
		return slices.Insert(texts, at, texts[at])
	default:
		next := d.roll(len(texts))
		texts[at], texts[next] = texts[next], texts[at]
	}
	return texts
}

func TestParseOfSpoiltPrograms(t *testing.T) {
	g, d := newGrammar(), newDice()
	others := append(append(allWords(), allSigns()...), "x", "y", "7", "0")
	met := map[int]int{}
	for _, p := range makePrograms(2500) {
		tokens, _ := impl.LexTokens(p.text)
		if len(tokens) == 0 || len(tokens) > 120 {
			continue
		}
		var texts []string
		for _, token := range tokens {
			texts = append(texts, token.Text)
		}
		for range 1 + d.roll(2) {
			if len(texts) > 0 {
				texts = spoil(d, texts, others)
			}
		}
		text := strings.Join(texts, pick(d, []string{" ", "\n", " # so\n"})) + pick(d, []string{"", " ", "# so"})
		want := g.faultOf(text)
		met[want.Code]++
		checkRefusedAs(t, text, want)
	}
	if met[0] < 50 || met[impl.SrSyntax] < 1000 {
		t.Error("programs that are read, and not", met)
	}
}

// Texts of what nests, and little else, are often too deep.
func TestParseOfDeepTexts(t *testing.T) {
	g, d := newGrammar(), newDice()
	openings := map[string][]string{
		"statement": {"if 1<2{", "while x<1{", "for i=0..1{", "if 1<2{}else{"},
		"condition": {"not ", "[", "[", "null p and ", "1<2 or not "},
		"term":      {"(", "-", "a[", "1+(", "(1)*-", "a[1]|", "--", "- -", "(((", "*p+"},
	}
	met := map[int]int{}
	for range 3000 {
		text := "func f(){"
		for range d.roll(6) {
			text += pick(d, openings["statement"])
		}
		text += pick(d, []string{"x=", "assert ", "a[", "x=&a[", "x=g(", "print ", "if ", "x+=", "*p=", "for i="})
		if strings.HasSuffix(text, "assert ") || strings.HasSuffix(text, "if ") {
			for range d.roll(7) {
				text += pick(d, openings["condition"])
			}
		}
		for range d.roll(8) {
			text += pick(d, openings["term"])
		}
		text += pick(d, []string{"", "1", "x", "*p", ")", "]", ";", "else", " # so", "!", "1<2;}"})
		want := g.faultOf(text)
		met[want.Code]++
		checkRefusedAs(t, text, want)
	}
	if met[impl.SrDeep] < 500 || met[impl.SrSyntax] < 500 {
		t.Error("texts that are too deep, and not", met)
	}
}

// Whatever the bytes, there is an answer.
func TestParseOfAnyTexts(t *testing.T) {
	g := newGrammar()
	for _, text := range sampleTexts() {
		checkRefusedAs(t, text, g.faultOf(text))
	}
	for b := range 256 {
		text := string([]byte{byte(b)})
		checkRefusedAs(t, text, g.faultOf(text))
	}
}

// No list of an answer shares memory with another one, or with another answer, spare room included.
func TestParseTreeIsNewMemory(t *testing.T) {
	want, _ := impl.ParseTree(allKinds)
	nodes, _ := impl.ParseTree(allKinds)
	for i := range nodes {
		kids := nodes[i].Kids
		kids = kids[:cap(kids)]
		for k := range kids {
			kids[k] = -1
		}
		nodes[i].Kids = nil
		if !sameNodes(nodes[i+1:], want[i+1:]) {
			t.Fatalf("the kids of node %d share memory", i)
		}
	}
	if again, _ := impl.ParseTree(allKinds); !sameNodes(again, want) {
		t.Error("one answer is written into by another one")
	}
}

func TestPromise8TheSameProgram(t *testing.T) {
	texts := []string{allKinds, longLine("f", 331), "func f(){var a" + strings.Repeat(",a", 345) + ";}"}
	for _, p := range makePrograms(2000) {
		texts = append(texts, p.text)
	}
	for _, text := range texts {
		nodes, fault := impl.ParseTree(text)
		if fault != (impl.Fault{}) {
			t.Errorf("ParseTree(%q): %v", text, fault)
		}
		checkPromise8(t, text, nodes)
	}
}

func TestPromise9ATreeIsATree(t *testing.T) {
	for _, p := range makePrograms(2000) {
		nodes, fault := impl.ParseTree(p.text)
		if fault != (impl.Fault{}) {
			t.Errorf("ParseTree(%q): %v", p.text, fault)
		}
		checkPromise9(t, p.text, nodes)
	}
}
