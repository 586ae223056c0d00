package tests

import (
	"strconv"
	"strings"

	"loop.example/sedge/impl"
)

// sign is how an operator or a comparison is written.
type sign struct {
	text string
	num  int
}

// levelSigns are the operators of each level.
func levelSigns(level int) []sign {
	switch level {
	case 1:
		return []sign{{"|", impl.OpOr}}
	case 2:
		return []sign{{"^", impl.OpXor}}
	case 3:
		return []sign{{"&", impl.OpAnd}}
	case 4:
		return []sign{{"<<", impl.OpShl}, {">>", impl.OpShr}}
	case 5:
		return []sign{{"+", impl.OpAdd}, {"-", impl.OpSub}, {"+%", impl.OpWrapAdd}, {"-%", impl.OpWrapSub}}
	}
	return []sign{{"*", impl.OpMul}, {"/", impl.OpDiv}, {"%", impl.OpRem}, {"*%", impl.OpWrapMul}}
}

func comparisonSigns() []sign {
	return []sign{{"==", impl.CmpEq}, {"!=", impl.CmpNe}, {"<", impl.CmpLt}, {"<=", impl.CmpLe}, {">", impl.CmpGt}, {">=", impl.CmpGe}}
}

// made is a term or a condition: its node, how it is written down, and the level of what joins it. Of a term
// that is joined by no operator the level is 7; of a condition it is 1 for or, 2 for and, else 3.
type made struct {
	node  int
	text  string
	level int
}

// within is what was made, between two signs when it must.
func (a made) within(open, end string, must bool) string {
	if must {
		return open + a.text + end
	}
	return a.text
}

// maker makes a program at random: its text, and beside it the nodes that the document asks for, and the
// text in which they are written down.
type maker struct {
	d     *dice
	text  strings.Builder
	last  string
	tight bool
	nodes []impl.Node
	lines strings.Builder
	depth int
}

// emit writes a token behind what there is, and tells where it begins.
func (m *maker) emit(token string) int {
	both, _ := impl.LexTokens(m.last + token)
	apart := len(both) == 2 && both[0].Text == m.last
	switch {
	case m.tight && apart:
	case m.tight || m.d.roll(2) == 0:
		m.text.WriteByte(' ')
	default:
		m.text.WriteString(pick(m.d, sampleGaps()))
	}
	m.last = token
	at := m.text.Len()
	m.text.WriteString(token)
	return at
}

// emitAll writes tokens and tells where the first one begins.
func (m *maker) emitAll(tokens ...string) int {
	first := m.emit(tokens[0])
	for _, token := range tokens[1:] {
		m.emit(token)
	}
	return first
}

func (m *maker) add(node impl.Node, kids ...int) int {
	node.Kids = kids
	m.nodes = append(m.nodes, node)
	return len(m.nodes) - 1
}

func (m *maker) name() string {
	return pick(m.d, []string{"a", "b", "x", "y", "i", "p", "x1", "abcdefgh", "iff", "nulls"})
}

func (m *maker) line(text string) {
	m.lines.WriteString(text + "\n")
}

// term is a term whose operators are of a level, or a greater one.
func (m *maker) term(level int) made {
	if level == 7 {
		return m.unary()
	}
	left := m.term(level + 1)
	for m.d.roll(9) == 0 {
		op := pick(m.d, levelSigns(level))
		at := m.emit(op.text)
		right := m.term(level + 1)
		text := left.within("(", ")", left.level < level) + " " + op.text + " " + right.within("(", ")", right.level <= level)
		left = made{m.add(impl.Node{Kind: impl.NdOp, At: at, Num: op.num}, left.node, right.node), text, level}
	}
	return left
}

func (m *maker) unary() made {
	if m.depth == 10 || m.d.roll(7) > 0 {
		return m.primary()
	}
	at := m.emit("-")
	nought := m.add(impl.Node{Kind: impl.NdNum, At: at})
	m.depth++
	term := m.unary()
	m.depth--
	return made{m.add(impl.Node{Kind: impl.NdOp, At: at, Num: impl.OpSub}, nought, term.node), "-" + term.within("(", ")", term.level < 7), 7}
}

func (m *maker) primary() made {
	choice := m.d.roll(10)
	if m.depth == 10 {
		choice = m.d.roll(6)
	}
	switch choice {
	case 0, 1:
		num := pick(m.d, []int{0, 0, 1, 2, 7, 10, impl.NumMax})
		text := strconv.Itoa(num)
		return made{m.add(impl.Node{Kind: impl.NdNum, At: m.emit(text), Num: num}), text, 7}
	case 2, 3, 4:
		name := m.name()
		return made{m.add(impl.Node{Kind: impl.NdVar, At: m.emit(name), Name: name}), name, 7}
	case 5:
		name := m.name()
		return made{m.add(impl.Node{Kind: impl.NdDeref, At: m.emitAll("*", name), Name: name}), "*" + name, 7}
	case 6:
		name := m.name()
		at := m.emitAll(name, "[")
		m.depth++
		term := m.term(1)
		m.depth--
		m.emit("]")
		return made{m.add(impl.Node{Kind: impl.NdElem, At: at, Name: name}, term.node), name + "[" + term.text + "]", 7}
	}
	m.emit("(")
	m.depth++
	term := m.term(1)
	m.depth--
	m.emit(")")
	return term
}

func (m *maker) condition() made {
	left := m.both()
	for m.d.roll(4) == 0 {
		at := m.emit("or")
		right := m.both()
		text := left.text + " or " + right.within("[", "]", right.level == 1)
		left = made{m.add(impl.Node{Kind: impl.NdOr, At: at}, left.node, right.node), text, 1}
	}
	return left
}

func (m *maker) both() made {
	left := m.lastCondition()
	for m.d.roll(4) == 0 {
		at := m.emit("and")
		right := m.lastCondition()
		text := left.within("[", "]", left.level == 1) + " and " + right.within("[", "]", right.level != 3)
		left = made{m.add(impl.Node{Kind: impl.NdAnd, At: at}, left.node, right.node), text, 2}
	}
	return left
}

func (m *maker) lastCondition() made {
	choice := m.d.roll(8)
	if m.depth == 10 {
		choice = 2 + m.d.roll(6)
	}
	switch choice {
	case 0:
		at := m.emit("not")
		m.depth++
		cond := m.lastCondition()
		m.depth--
		return made{m.add(impl.Node{Kind: impl.NdNot, At: at}, cond.node), "not " + cond.within("[", "]", cond.level != 3), 3}
	case 1:
		m.emit("[")
		m.depth++
		cond := m.condition()
		m.depth--
		m.emit("]")
		return cond
	case 2:
		name := m.name()
		return made{m.add(impl.Node{Kind: impl.NdIsNull, At: m.emitAll("null", name), Name: name}), "null " + name, 3}
	}
	left := m.term(1)
	cmp := pick(m.d, comparisonSigns())
	at := m.emit(cmp.text)
	right := m.term(1)
	return made{m.add(impl.Node{Kind: impl.NdCmp, At: at, Num: cmp.num}, left.node, right.node), left.text + " " + cmp.text + " " + right.text, 3}
}

// block is a block behind what was written ahead of its brace; the line that ends it is not written.
func (m *maker) block(ahead string) int {
	at := m.emit("{")
	m.line(ahead + "{")
	m.depth++
	kids := m.statements()
	m.depth--
	m.emit("}")
	return m.add(impl.Node{Kind: impl.NdBlock, At: at}, kids...)
}

func (m *maker) statements() []int {
	var kids []int
	for range m.d.roll(4) {
		kids = append(kids, m.statement())
	}
	return kids
}

// statement is a statement; with blocks only where these are not too deep.
func (m *maker) statement() int {
	choice := m.d.roll(15)
	if m.depth == 10 {
		choice = 3 + m.d.roll(12)
	}
	switch {
	case choice < 3:
		return m.withBlocks(choice)
	case choice < 10:
		return m.withName(choice - 3)
	}
	return m.withWord(choice - 10)
}

func (m *maker) withBlocks(choice int) int {
	if choice == 2 {
		return m.loop()
	}
	word, kind := "if", impl.NdIf
	if choice == 1 {
		word, kind = "while", impl.NdWhile
	}
	at := m.emit(word)
	cond := m.condition()
	kids := []int{cond.node, m.block(word + " " + cond.text + " ")}
	if choice == 0 && m.d.roll(2) == 0 {
		m.emit("else")
		kids = append(kids, m.block("} else "))
	}
	m.line("}")
	return m.add(impl.Node{Kind: kind, At: at}, kids...)
}

func (m *maker) loop() int {
	m.emit("for")
	name := m.name()
	at := m.emitAll(name, "=")
	from := m.term(1)
	m.emit("..")
	to := m.term(1)
	body := m.block("for " + name + " = " + from.text + " .. " + to.text + " ")
	m.line("}")
	return m.add(impl.Node{Kind: impl.NdFor, At: at, Name: name}, from.node, to.node, body)
}

// withName is a statement without blocks that has a name at its head.
func (m *maker) withName(choice int) int {
	name := m.name()
	node := impl.Node{Kind: impl.NdSet, Name: name}
	var kids []int
	text := name + " = "
	switch choice {
	case 0:
		node.At = m.emitAll(name, "=")
		term := m.term(1)
		text, kids = text+term.text, []int{term.node}
	case 1:
		node.At = m.emitAll(name, "=")
		text, kids = text+"null", []int{m.add(impl.Node{Kind: impl.NdNull, At: m.emit("null")})}
	case 2:
		node.Kind, node.At = impl.NdAddr, m.emitAll(name, "=", "&")
		use, array := m.use()
		m.emit("[")
		term := m.term(1)
		m.emit("]")
		text, kids = text+"&"+array+"["+term.text+"]", []int{use, term.node}
	case 3:
		node.Kind, node.At = impl.NdCall, m.emitAll(name, "=")
		use, callee := m.use()
		terms, list := m.arguments()
		text, kids = text+callee+"("+list+")", append([]int{use}, terms...)
	case 4:
		node.Kind, node.At = impl.NdMove, m.emitAll(name, "+=")
		term := m.term(1)
		text, kids = name+" += "+term.text, []int{term.node}
	case 5:
		node.Kind, node.At = impl.NdStore, m.emitAll(name, "[")
		place := m.term(1)
		m.emitAll("]", "=")
		term := m.term(1)
		text, kids = name+"["+place.text+"] = "+term.text, []int{place.node, term.node}
	default:
		node.Kind, node.At = impl.NdPut, m.emitAll("*", name, "=")
		term := m.term(1)
		text, kids = "*"+name+" = "+term.text, []int{term.node}
	}
	m.emit(";")
	m.line(text + ";")
	return m.add(node, kids...)
}

func (m *maker) use() (int, string) {
	name := m.name()
	return m.add(impl.Node{Kind: impl.NdUse, At: m.emit(name), Name: name}), name
}

func (m *maker) arguments() ([]int, string) {
	var nodes []int
	var texts []string
	m.emit("(")
	for i := range m.d.roll(4) {
		if i > 0 {
			m.emit(",")
		}
		term := m.term(1)
		nodes, texts = append(nodes, term.node), append(texts, term.text)
	}
	m.emit(")")
	return nodes, strings.Join(texts, ", ")
}

// withWord is a statement without blocks that begins with a word.
func (m *maker) withWord(choice int) int {
	word := []string{"read", "print", "assert", "stop", "return"}[choice]
	node := impl.Node{Kind: impl.NdRead + choice, At: m.emit(word)}
	var kids []int
	switch word {
	case "read":
		node.Name = m.name()
		node.At = m.emit(node.Name)
		word += " " + node.Name
	case "assert":
		cond := m.condition()
		word, kids = word+" "+cond.text, []int{cond.node}
	case "print", "return":
		term := m.term(1)
		word, kids = word+" "+term.text, []int{term.node}
	}
	m.emit(";")
	m.line(word + ";")
	return m.add(node, kids...)
}

// names are declared, and told with commas between them as they are written.
func (m *maker) names(kind int, count int) ([]int, []string) {
	var nodes []int
	var names []string
	for i := range count {
		if i > 0 {
			m.emit(",")
		}
		name := m.name()
		nodes, names = append(nodes, m.add(impl.Node{Kind: kind, At: m.emit(name), Name: name})), append(names, name)
	}
	return nodes, names
}

func (m *maker) function() int {
	m.emit("func")
	name := m.name()
	at := m.emitAll(name, "(")
	kids, params := m.names(impl.NdParam, m.d.roll(4))
	m.emit(")")
	brace := m.emit("{")
	m.line("func " + name + "(" + strings.Join(params, ", ") + ") {")
	for range m.d.roll(3) {
		word, kind := "var", impl.NdLocal
		if m.d.roll(2) == 0 {
			word, kind = "ref", impl.NdRef
		}
		m.emit(word)
		nodes, names := m.names(kind, 1+m.d.roll(3))
		m.emit(";")
		for _, local := range names {
			m.line(word + " " + local + ";")
		}
		kids = append(kids, nodes...)
	}
	m.depth++
	statements := m.statements()
	m.depth--
	m.emit("}")
	m.line("}")
	kids = append(kids, m.add(impl.Node{Kind: impl.NdBlock, At: brace}, statements...))
	return m.add(impl.Node{Kind: impl.NdFunc, At: at, Name: name}, kids...)
}

func (m *maker) declaration() int {
	switch m.d.roll(4) {
	case 0:
		num := pick(m.d, []int{0, 1, 10, 64, impl.NumMax})
		m.emit("array")
		name, size := m.name(), strconv.Itoa(num)
		at := m.emitAll(name, "[", size, "]", ";")
		m.line("array " + name + "[" + size + "];")
		return m.add(impl.Node{Kind: impl.NdArray, At: at, Num: num, Name: name})
	case 1:
		m.emit("var")
		name := m.name()
		at := m.emitAll(name, ";")
		m.line("var " + name + ";")
		return m.add(impl.Node{Kind: impl.NdGlobal, At: at, Name: name})
	}
	return m.function()
}

// program is what one maker makes.
type program struct {
	text  string
	nodes []impl.Node
	lines string
}

func makeProgram(d *dice) program {
	m := &maker{d: d, tight: d.roll(3) == 0}
	var kids []int
	for range d.roll(5) {
		kids = append(kids, m.declaration())
	}
	m.add(impl.Node{Kind: impl.NdProgram}, kids...)
	m.text.WriteString(pick(d, []string{"", " ", "\n", "# the end", "# if\n"}))
	return program{m.text.String(), m.nodes, m.lines.String()}
}

// makePrograms are so many programs that may be read.
func makePrograms(count int) []program {
	d := newDice()
	var list []program
	for len(list) < count {
		p := makeProgram(d)
		if _, fault := impl.LexTokens(p.text); fault == (impl.Fault{}) {
			list = append(list, p)
		}
	}
	return list
}
