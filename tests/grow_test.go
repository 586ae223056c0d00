package tests

import (
	"slices"
	"strconv"
	"strings"

	"loop.example/sedge/impl"
)

// grower makes programs at random that are taken: each name in them stands for what it must.
type grower struct {
	d     *dice
	table impl.Table
	fn    impl.Func
	busy  []string
}

// grown is a program that is taken, and what it declares but for the places of blocks.
type grown struct {
	text  string
	table impl.Table
}

// fresh takes so many of the names.
func fresh(d *dice, names *[]string, count int) []string {
	var list []string
	for range count {
		at := d.roll(len(*names))
		list = append(list, (*names)[at])
		*names = slices.Delete(*names, at, at+1)
	}
	return list
}

// plan is what a program shall declare; all its functions choose from the same names for what is their own.
func plan(d *dice) impl.Table {
	names := strings.Fields("a b c d e f g h i j k l m n o p q r s t u v w x y z x1 abcdefgh iff nulls main0")
	var t impl.Table
	for _, name := range fresh(d, &names, d.roll(impl.MaxArrays+1)) {
		t.Arrays = append(t.Arrays, impl.Array{Name: name, Size: pick(d, []int{1, 2, 3, 10, impl.MaxSize})})
	}
	t.Globals = fresh(d, &names, d.roll(impl.MaxGlobals+1))
	functions := slices.Insert(fresh(d, &names, d.roll(impl.MaxFuncs)), 0, "main")
	at := d.roll(len(functions))
	functions[0], functions[at] = functions[at], functions[0]
	for _, name := range functions {
		own := slices.Clone(names)
		f := impl.Func{Name: name, Ints: fresh(d, &own, d.roll(impl.MaxInts+1)), Refs: fresh(d, &own, d.roll(impl.MaxRefs+1))}
		if name != "main" {
			f.Params = d.roll(min(len(f.Ints), impl.MaxParams) + 1)
		}
		t.Funcs = append(t.Funcs, f)
	}
	return t
}

func (g *grower) numbers() []string {
	return slices.Concat(g.fn.Ints, g.table.Globals)
}

// free are the numbers that may be set.
func (g *grower) free(names []string) []string {
	return slices.DeleteFunc(slices.Clone(names), func(name string) bool { return slices.Contains(g.busy, name) })
}

func (g *grower) array() string {
	return pick(g.d, g.table.Arrays).Name
}

// term is a term, of which no more than so much is nested.
func (g *grower) term(nested int) string {
	choice := g.d.roll(8)
	switch {
	case choice < 3 && len(g.numbers()) > 0:
		return pick(g.d, g.numbers())
	case choice == 3 && nested > 0 && len(g.table.Arrays) > 0:
		return g.array() + "[" + g.term(nested-1) + "]"
	case choice == 4 && len(g.fn.Refs) > 0:
		return "*" + pick(g.d, g.fn.Refs)
	case choice == 5 && nested > 0:
		op := pick(g.d, levelSigns(1+g.d.roll(6)))
		return "(" + g.term(nested-1) + " " + op.text + " " + g.term(nested-1) + ")"
	case choice == 6 && nested > 0:
		return "-" + g.term(nested-1)
	}
	return strconv.Itoa(pick(g.d, []int{0, 1, 2, 3, 5, 10, impl.NumMax}))
}

func (g *grower) condition(nested int) string {
	choice := g.d.roll(8)
	switch {
	case choice == 0 && nested > 0:
		return "not " + pick(g.d, []string{"[" + g.condition(nested-1) + "]", "1 < 2"})
	case choice < 3 && nested > 0:
		return "[" + g.condition(nested-1) + "] " + pick(g.d, []string{"and", "or"}) + " [" + g.condition(nested-1) + "]"
	case choice == 3 && len(g.fn.Refs) > 0:
		return "null " + pick(g.d, g.fn.Refs)
	}
	return g.term(2) + " " + pick(g.d, comparisonSigns()).text + " " + g.term(2)
}

func (g *grower) block(nested int) string {
	text := "{\n"
	for range g.d.roll(4) {
		text += g.statement(nested)
	}
	return text + "}"
}

func (g *grower) statement(nested int) string {
	choice := g.d.roll(4)
	switch {
	case choice == 0 && nested > 0:
		return g.withBlocks(nested-1) + "\n"
	case choice == 1 && len(g.fn.Refs) > 0:
		return g.ofRef() + ";\n"
	case choice == 2 && len(g.free(g.numbers())) > 0:
		return g.ofNumber() + ";\n"
	}
	return g.plain() + ";\n"
}

func (g *grower) withBlocks(nested int) string {
	counters := g.free(g.fn.Ints)
	choice := g.d.roll(4)
	switch {
	case choice == 0:
		return "if " + g.condition(2) + " " + g.block(nested)
	case choice == 1:
		return "if " + g.condition(2) + " " + g.block(nested) + " else " + g.block(nested)
	case choice == 2 || len(counters) == 0:
		return "while " + g.condition(2) + " " + g.block(nested)
	}
	counter := pick(g.d, counters)
	text := "for " + counter + " = " + g.term(2) + " .. " + g.term(2) + " "
	g.busy = append(g.busy, counter)
	text += g.block(nested)
	g.busy = g.busy[:len(g.busy)-1]
	return text
}

// ofRef is a statement that has a reference at its head.
func (g *grower) ofRef() string {
	name := pick(g.d, g.fn.Refs)
	choice := g.d.roll(5)
	switch {
	case choice == 0 && len(g.table.Arrays) > 0:
		return name + " = &" + g.array() + "[" + g.term(3) + "]"
	case choice == 1:
		return name + " = null"
	case choice == 2:
		return name + " = " + pick(g.d, g.fn.Refs)
	case choice == 3:
		return name + " += " + g.term(3)
	}
	return "*" + name + " = " + g.term(3)
}

// ofNumber is a statement that sets a number.
func (g *grower) ofNumber() string {
	name := pick(g.d, g.free(g.numbers()))
	switch g.d.roll(3) {
	case 0:
		return "read " + name
	case 1:
		called := pick(g.d, g.table.Funcs)
		var terms []string
		for range called.Params {
			terms = append(terms, g.term(3))
		}
		return name + " = " + called.Name + "(" + strings.Join(terms, ", ") + ")"
	}
	return name + " = " + g.term(3)
}

// plain is a statement that any function may have.
func (g *grower) plain() string {
	choice := g.d.roll(12)
	switch {
	case choice < 4 && len(g.table.Arrays) > 0:
		return g.array() + "[" + g.term(3) + "] = " + g.term(3)
	case choice < 7:
		return "assert " + g.condition(3)
	case choice == 7:
		return "stop"
	case choice == 8:
		return "return " + g.term(3)
	}
	return "print " + g.term(3)
}

func (g *grower) function(f impl.Func) string {
	g.fn = f
	text := "func " + f.Name + "(" + strings.Join(f.Ints[:f.Params], ", ") + ") {\n"
	numbers, refs := f.Ints[f.Params:], f.Refs
	for len(numbers) > 0 || len(refs) > 0 {
		list, word := &numbers, "var "
		if len(numbers) == 0 || len(refs) > 0 && g.d.roll(2) == 0 {
			list, word = &refs, "ref "
		}
		count := 1 + g.d.roll(len(*list))
		text += word + strings.Join((*list)[:count], ", ") + ";\n"
		*list = (*list)[count:]
	}
	for range g.d.roll(6) {
		text += g.statement(3)
	}
	return text + "}\n"
}

// program has what it declares one behind the other, in any order.
func (g *grower) program() string {
	arrays, globals, funcs := g.table.Arrays, g.table.Globals, g.table.Funcs
	text := ""
	for len(arrays)+len(globals)+len(funcs) > 0 {
		choice := g.d.roll(3)
		switch {
		case choice == 0 && len(arrays) > 0:
			text += "array " + arrays[0].Name + "[" + strconv.Itoa(arrays[0].Size) + "];\n"
			arrays = arrays[1:]
		case choice == 1 && len(globals) > 0:
			text += "var " + globals[0] + ";\n"
			globals = globals[1:]
		case choice == 2 && len(funcs) > 0:
			text += g.function(funcs[0])
			funcs = funcs[1:]
		}
	}
	return text
}

// growPrograms are so many programs that are taken.
func growPrograms(count int) []grown {
	d := newDice()
	var list []grown
	for len(list) < count {
		g := &grower{d: d, table: plan(d)}
		text := g.program()
		if _, fault := impl.LexTokens(text); fault == (impl.Fault{}) {
			list = append(list, grown{text, g.table})
		}
	}
	return list
}

// relaid is a text with other gaps between its tokens; it may be too long then.
func relaid(d *dice, text string) string {
	tokens, _ := impl.LexTokens(text)
	var other strings.Builder
	for _, token := range tokens {
		other.WriteString(pick(d, sampleGaps()) + token.Text)
	}
	return other.String()
}
