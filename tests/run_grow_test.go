package tests

import (
	"slices"
	"strings"

	"loop.example/sedge/impl"
)

// liveGrower makes programs at random of which most run for a while: their references are set at first, their
// cells are mostly there, and their operators mostly wrap.
type liveGrower struct {
	d     *dice
	rules map[string][]string
	ints  []string
	loops int
}

// liveRules are the forms of the words of a program; the first form of a word is the one without much below it.
func liveRules() map[string][]string {
	return map[string][]string{
		"NUM":  {"0", "1", "1", "2", "3", "3", "7", "31", "100", "2147483647"},
		"TERM": {"NUM", "ANY", "ANY", "ANY", "a [ CELL ]", "b [ 0 ]", "* REF", "( TERM OP TERM )", "( TERM OP TERM )", "- ANY"},
		"CELL": {"3", "0", "( TERM & 3 )", "( TERM & 3 )", "( TERM & 3 )", "TERM"},
		"OP":   {"+%", "+%", "-%", "*%", "&", "|", "^", "+", "-", "*", "/", "%", ">>", "<<"},
		"CMP":  {"==", "!=", "<", "<=", ">", ">="},
		"COND": {"TERM CMP TERM", "TERM CMP TERM", "ANY < NUM", "null REF", "not COND", "[ COND ] and [ COND ]", "[ COND ] or [ COND ]"},
		"BODY": {"", "print TERM ;", "DO", "DO DO", "DO DO DO"},
		"MOVE": {"0", "1", "1", "- 1", "( ANY & 1 )"},
		"DO": {
			"print TERM ;", "print TERM ;", "print ANY ;", "INT = TERM ;", "INT = TERM ;", "a [ CELL ] = TERM ;", "b [ 0 ] = TERM ;",
			"* REF = TERM ;", "REF = & a [ CELL ] ;", "REF = & a [ 4 ] ; REF += - 1 ;", "REF = & b [ 0 ] ;", "REF = REF ;", "REF += MOVE ;",
			"if null REF { REF = & a [ 0 ] ; }", "if COND { BODY }", "if COND { BODY } else { BODY }", "while COND { BODY }", "FOR", "FOR", "FOR",
			"while ANY < NUM { BODY g = g + 1 ; n = g ; }", "read INT ;", "read INT ; print INT ;", "INT = CALL ;", "INT = CALL ;", "INT = CALL ;", "RARE",
		},
		"RARE": {"print TERM ;", "REF = null ;", "assert COND ;", "stop ;", "return TERM ;", "a [ TERM ] = TERM ;", "n = main ( ) ;", "n = f ( n ) ;"},
	}
}

// grow is a form, with all its words grown.
func (g *liveGrower) grow(form string, room int) string {
	var text []string
	for _, word := range strings.Fields(form) {
		text = append(text, g.word(word, room))
	}
	return strings.Join(text, " ")
}

func (g *liveGrower) word(word string, room int) string {
	forms := g.rules[word]
	switch {
	case word == "INT":
		return pick(g.d, g.ints)
	case word == "ANY":
		return pick(g.d, append([]string{"c1", "c2", "c3"}, g.ints...))
	case word == "REF":
		return pick(g.d, []string{"p", "q"})
	case word == "FOR":
		return g.counting(room)
	case forms == nil:
		return word
	case room <= 0:
		return g.grow(forms[0], 0)
	}
	return g.grow(pick(g.d, forms), room-1)
}

// counting is a for, of which no more than three stand in each other.
func (g *liveGrower) counting(room int) string {
	if g.loops == 3 || room <= 0 {
		return g.grow("print ANY ;", room)
	}
	counter := []string{"c1", "c2", "c3"}[g.loops]
	head := "for " + counter + " = " + g.grow(pick(g.d, []string{"0", "- 1", "NUM"}), room-1) + " .. " + g.grow(pick(g.d, []string{"NUM", "4", "ANY"}), room-1)
	g.loops++
	text := head + " { " + g.grow("BODY", room-1) + " }"
	g.loops--
	return text
}

// function is a function with the statements of a form; what it calls are the forms of calls.
func (g *liveGrower) function(name string, params []string, form string, calls ...string) string {
	g.ints = slices.Concat([]string{"n", "m", "g", "h"}, params)
	g.rules["CALL"] = calls
	return "func " + name + " ( " + strings.Join(params, " , ") + " ) { var n , m , c1 ; ref p , q ; var c2 , c3 ; " +
		g.grow(form, 6) + " }\n"
}

// growLive are so many programs that are taken.
func growLive(count int) []string {
	g := &liveGrower{d: newDice(), rules: liveRules()}
	var list []string
	for len(list) < count {
		text := "array a [ 4 ] ; array b [ 1 ] ; var g ; var h ;\n" +
			g.function("k", []string{"x", "y"}, "p = & a [ 0 ] ; BODY if x > 0 and x < 9 { n = k ( x - 1 , TERM ) ; } BODY return TERM ;", "0", "k ( 0 , TERM )") +
			g.function("f", []string{"x"}, "p = & a [ 2 ] ; q = & a [ 3 ] ; BODY DO", "1", "k ( TERM , TERM )", "k ( 3 , ANY )") +
			g.function("main", nil, "p = & a [ 1 ] ; q = & b [ 0 ] ; DO BODY DO BODY print n ;", "1", "f ( TERM )", "f ( TERM )", "k ( TERM , TERM )", "k ( 5 , ANY )")
		if _, fault := impl.NameTable(text); fault == (impl.Fault{}) {
			list = append(list, text)
		}
	}
	return list
}

// anyInputs are inputs, not all of which are numbers of 32 bits.
func anyInputs(d *dice) []int {
	var list []int
	for range d.roll(12) {
		v := d.roll(12) - 3
		switch d.roll(8) {
		case 0:
			v += pick(d, []int{1 << 31, -1 << 31, 1 << 32, -1 << 32, 1 << 62, -1 << 63})
		case 1:
			v *= 1000003
		}
		list = append(list, v)
	}
	return list
}
