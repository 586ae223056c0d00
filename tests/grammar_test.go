package tests

import (
	"strings"

	"loop.example/sedge/impl"
)

// grammarRules is the document's grammar, a list of forms for each name with a great letter. DEEPER and BACK
// stand where the depth is one more from then on, and where it is what it was.
func grammarRules() map[string][]string {
	rules := map[string][]string{
		"Program":   {"", "Program Declared"},
		"Declared":  {"array NAME [ NUMBER ] ;", "var NAME ;", "func Function"},
		"Function":  {"NAME ( ) Body", "NAME ( Names ) Body"},
		"Body":      {"{ DEEPER Locals Statements BACK }"},
		"Names":     {"NAME", "Names , NAME"},
		"Locals":    {"", "Locals var Names ;", "Locals ref Names ;"},
		"Block":     {"{ DEEPER Statements BACK }"},
		"Statement": {"NAME = Term ;", "NAME = null ;", "NAME = & NAME [ Term ] ;", "NAME = NAME ( ) ;", "NAME = NAME ( Terms ) ;"},
		"Terms":     {"Term", "Terms , Term"},
		"Cond":      {"Both", "Cond or Both"},
		"Both":      {"Last", "Both and Last"},
		"Last":      {"not DEEPER Last BACK", "[ DEEPER Cond BACK ]", "null NAME", "Term Compared Term"},
		"Compared":  {"==", "!=", "<", "<=", ">", ">="},
		"Term":      {"Level2", "Term | Level2"},
		"Level2":    {"Level3", "Level2 ^ Level3"},
		"Level3":    {"Level4", "Level3 & Level4"},
		"Level4":    {"Level5", "Level4 << Level5", "Level4 >> Level5"},
		"Level5":    {"Level6", "Level5 + Level6", "Level5 - Level6", "Level5 +% Level6", "Level5 -% Level6"},
		"Level6":    {"Unary", "Level6 * Unary", "Level6 / Unary", "Level6 % Unary", "Level6 *% Unary"},
		"Unary":     {"- DEEPER Unary BACK", "Primary"},
		"Primary":   {"NUMBER", "NAME", "NAME [ DEEPER Term BACK ]", "* NAME", "( DEEPER Term BACK )"},
	}
	rules["Statements"] = []string{"", "Statements Statement"}
	rules["Statement"] = append(rules["Statement"], "NAME += Term ;", "NAME [ Term ] = Term ;", "* NAME = Term ;",
		"if Cond Block", "if Cond Block else Block", "while Cond Block", "for NAME = Term .. Term Block",
		"read NAME ;", "print Term ;", "assert Cond ;", "stop ;", "return Term ;")
	return rules
}

// grammarForm is one form of a name.
type grammarForm struct {
	name    string
	symbols []string
}

// grammarItem is how far a form has been met since the token at origin, and how deep it is nested there.
type grammarItem struct {
	form   int
	met    int
	origin int
	depth  int
}

// grammarSet is all that may go on ahead of a token.
type grammarSet struct {
	items []grammarItem
	seen  map[grammarItem]bool
	deep  bool
}

func (s *grammarSet) add(item grammarItem) {
	if !s.seen[item] {
		s.seen[item] = true
		s.items = append(s.items, item)
	}
}

// grammar reads tokens by going on with all forms at once, so that it chooses none of them ahead of time.
type grammar struct {
	forms  []grammarForm
	byName map[string][]int
}

func newGrammar() *grammar {
	g := &grammar{byName: map[string][]int{}}
	for name, forms := range grammarRules() {
		for _, form := range forms {
			g.byName[name] = append(g.byName[name], len(g.forms))
			g.forms = append(g.forms, grammarForm{name, strings.Fields(form)})
		}
	}
	return g
}

// begin is the set ahead of the first token.
func (g *grammar) begin() []*grammarSet {
	set := &grammarSet{seen: map[grammarItem]bool{}}
	for _, form := range g.byName["Program"] {
		set.add(grammarItem{form: form})
	}
	sets := []*grammarSet{set}
	g.close(sets)
	return sets
}

// close adds to the last set all that follows from it without a token.
func (g *grammar) close(sets []*grammarSet) {
	at := len(sets) - 1
	set := sets[at]
	for i := 0; i < len(set.items); i++ {
		item := set.items[i]
		form := g.forms[item.form]
		if item.met == len(form.symbols) {
			g.complete(sets, item)
			continue
		}
		symbol := form.symbols[item.met]
		switch {
		case symbol == "DEEPER":
			item.depth++
			if item.depth > 10 {
				set.deep = true
				continue
			}
			item.met++
			set.add(item)
		case symbol == "BACK":
			item.depth--
			item.met++
			set.add(item)
		case g.byName[symbol] != nil:
			g.predict(set, at, symbol, item)
		}
	}
}

// predict adds the forms of a name that an item waits for.
func (g *grammar) predict(set *grammarSet, at int, name string, item grammarItem) {
	for _, form := range g.byName[name] {
		set.add(grammarItem{form: form, origin: at, depth: item.depth})
		if len(g.forms[form].symbols) == 0 {
			passed := item
			passed.met++
			set.add(passed)
		}
	}
}

// complete lets those go on that waited for what is met now.
func (g *grammar) complete(sets []*grammarSet, done grammarItem) {
	name := g.forms[done.form].name
	from := sets[done.origin].items
	for _, item := range from {
		symbols := g.forms[item.form].symbols
		if item.met < len(symbols) && symbols[item.met] == name && item.depth == done.depth {
			item.met++
			sets[len(sets)-1].add(item)
		}
	}
}

// feed is the sets with one behind a token; false when the token does not fit.
func (g *grammar) feed(sets []*grammarSet, token impl.Token) ([]*grammarSet, bool) {
	symbol := token.Text
	switch token.Kind {
	case impl.TkName:
		symbol = "NAME"
	case impl.TkNumber:
		symbol = "NUMBER"
	}
	next := &grammarSet{seen: map[grammarItem]bool{}}
	for _, item := range sets[len(sets)-1].items {
		symbols := g.forms[item.form].symbols
		if item.met < len(symbols) && symbols[item.met] == symbol {
			item.met++
			next.add(item)
		}
	}
	if len(next.items) == 0 {
		return sets, false
	}
	sets = append(sets[:len(sets):len(sets)], next)
	g.close(sets)
	return sets, true
}

// whole says whether the tokens so far are a program.
func (g *grammar) whole(sets []*grammarSet) bool {
	for _, item := range sets[len(sets)-1].items {
		form := g.forms[item.form]
		if form.name == "Program" && item.origin == 0 && item.met == len(form.symbols) {
			return true
		}
	}
	return false
}

// faultOf is what the document asks ParseTree to tell of a text.
func (g *grammar) faultOf(text string) impl.Fault {
	tokens, fault := impl.LexTokens(text)
	if fault != (impl.Fault{}) {
		return fault
	}
	return g.faultFrom(g.begin(), tokens, len(text))
}

// faultFrom is what is wrong with the tokens that come behind those that were fed.
func (g *grammar) faultFrom(sets []*grammarSet, tokens []impl.Token, end int) impl.Fault {
	for _, token := range tokens {
		if sets[len(sets)-1].deep {
			return impl.Fault{Code: impl.SrDeep, At: token.At}
		}
		next, ok := g.feed(sets, token)
		if !ok {
			return impl.Fault{Code: impl.SrSyntax, At: token.At}
		}
		sets = next
	}
	switch {
	case sets[len(sets)-1].deep:
		return impl.Fault{Code: impl.SrDeep, At: end}
	case !g.whole(sets):
		return impl.Fault{Code: impl.SrSyntax, At: end}
	}
	return impl.Fault{}
}
