package tests

import (
	"slices"
	"strconv"
	"strings"
	"testing"

	"loop.example/sedge/impl"
)

// tableText is a table, a piece for each of what it declares; of a function its parameters stand in parentheses,
// then its other ints, its refs with a star, and its body.
func tableText(t impl.Table) string {
	var pieces []string
	for _, array := range t.Arrays {
		pieces = append(pieces, "array "+array.Name+"["+strconv.Itoa(array.Size)+"]")
	}
	for _, global := range t.Globals {
		pieces = append(pieces, "var "+global)
	}
	for _, f := range t.Funcs {
		piece := "func " + f.Name + "(" + strings.Join(f.Ints[:f.Params], " ") + ")"
		for _, name := range f.Ints[f.Params:] {
			piece += " " + name
		}
		for _, name := range f.Refs {
			piece += " *" + name
		}
		pieces = append(pieces, piece+" @"+strconv.Itoa(f.Body))
	}
	return strings.Join(pieces, " | ")
}

// placelessTable is a table without the places of blocks.
func placelessTable(t impl.Table) impl.Table {
	t.Funcs = slices.Clone(t.Funcs)
	for i := range t.Funcs {
		t.Funcs[i].Body = 0
	}
	return t
}

func sameTable(a, b impl.Table) bool {
	return tableText(a) == tableText(b)
}

// checkNotTaken holds NameTable against a fault that it must tell of a text.
func checkNotTaken(t *testing.T, text string, want impl.Fault) {
	t.Helper()
	table, fault := impl.NameTable(text)
	if fault != want || tableText(table) != "" {
		t.Errorf("NameTable(%.300q) is %v with %q, not %v", text, fault, tableText(table), want)
	}
	if _, judged := judgeNames(text); judged != want {
		t.Errorf("%.300q is judged %v, not %v", text, judged, want)
	}
	checkPromise11(t, text)
}

// checkTaken is the table of a text that must be taken; whatever it is, promises 10 and 11 are asked of it.
func checkTaken(t *testing.T, text string) impl.Table {
	t.Helper()
	table, fault := impl.NameTable(text)
	if fault != (impl.Fault{}) {
		t.Errorf("NameTable(%.300q) is %v", text, fault)
		return impl.Table{}
	}
	if judged, fault := judgeNames(text); fault != (impl.Fault{}) || !sameTable(judged, table) {
		t.Errorf("NameTable(%.300q) is %q, but it is judged %v with %q", text, tableText(table), fault, tableText(judged))
	}
	checkPromise10(t, text, table)
	checkPromise11(t, text)
	return table
}

// checkPromise10: each name in a function has a kind, and a place at which it stands.
func checkPromise10(t *testing.T, text string, table impl.Table) {
	t.Helper()
	nodes, _ := impl.ParseTree(text)
	for _, f := range table.Funcs {
		if f.Body < 0 || f.Body >= len(nodes) || nodes[f.Body].Kind != impl.NdBlock {
			t.Errorf("%.300q: the body of %s is no block: %d", text, f.Name, f.Body)
			continue
		}
		for _, name := range slices.Concat(f.Ints, f.Refs, namesBelow(nodes, f.Body)) {
			kind, place := impl.NameKind(table, f.Name, name)
			if there := nameAt(table, f, kind, place); there != name {
				t.Errorf("%.300q: in %s the name %s is %d at %d, where %q is", text, f.Name, name, kind, place, there)
			}
		}
	}
}

// namesBelow are the names of a node and of all below it.
func namesBelow(nodes []impl.Node, place int) []string {
	var list []string
	if name := nodes[place].Name; name != "" {
		list = append(list, name)
	}
	for _, kid := range nodes[place].Kids {
		list = append(list, namesBelow(nodes, kid)...)
	}
	return list
}

// nameAt is the name that stands at a place of a list, empty when there is none.
func nameAt(table impl.Table, f impl.Func, kind, place int) string {
	var names []string
	switch kind {
	case impl.NmArray:
		for _, array := range table.Arrays {
			names = append(names, array.Name)
		}
	case impl.NmGlobal:
		names = table.Globals
	case impl.NmInt:
		names = f.Ints
	case impl.NmRef:
		names = f.Refs
	case impl.NmFunc:
		for _, other := range table.Funcs {
			names = append(names, other.Name)
		}
	}
	if place < 0 || place >= len(names) {
		return ""
	}
	return names[place]
}

// checkPromise11: written down, a text declares the same; and what is wrong with it is wrong with it still.
func checkPromise11(t *testing.T, text string) {
	t.Helper()
	written, fault := impl.ParsePrint(text)
	if fault != (impl.Fault{}) {
		return
	}
	if _, fault := impl.LexTokens(written); fault != (impl.Fault{}) {
		return
	}
	table, fault := impl.NameTable(text)
	again, other := impl.NameTable(written)
	if fault.Code != other.Code || !sameTable(placelessTable(table), placelessTable(again)) {
		t.Errorf("NameTable(%.300q) is %q and %v, but written down it is %q and %v", text, tableText(table), fault, tableText(again), other)
	}
}

// checkNames takes texts in which @ stands at the place of what is wrong.
func checkNames(t *testing.T, code int, marked ...string) {
	t.Helper()
	for _, text := range marked {
		unmarked, at := cutMark(t, text)
		checkNotTaken(t, unmarked, impl.Fault{Code: code, At: at})
	}
}

func checkAllTaken(t *testing.T, texts ...string) {
	t.Helper()
	for _, text := range texts {
		checkTaken(t, text)
	}
}

// inNamed puts statements into a main that has names of every kind: the arrays a and b, the globals g and h, the
// functions f, which has no parameters, and k, which has two, the ints i and j, the refs p and q. The name z is none.
func inNamed(statements string) string {
	return "array a[3]; var g; func f() { return 1; } func k(x, y) { return x; } func main() { var i, j; ref p, q; " +
		statements + " } array b[1]; var h;"
}

func checkNamed(t *testing.T, code int, marked ...string) {
	t.Helper()
	for _, statements := range marked {
		checkNames(t, code, inNamed(statements))
	}
}

func checkNamedTaken(t *testing.T, list ...string) {
	t.Helper()
	for _, statements := range list {
		checkTaken(t, inNamed(statements))
	}
}

func TestNameConstants(t *testing.T) {
	limits := []int{impl.MaxArrays, impl.MaxSize, impl.MaxGlobals, impl.MaxFuncs, impl.MaxParams, impl.MaxInts, impl.MaxRefs}
	if !slices.Equal(limits, []int{4, 64, 4, 6, 3, 8, 3}) {
		t.Error("limits", limits)
	}
	kinds := []int{impl.NmArray, impl.NmGlobal, impl.NmInt, impl.NmRef, impl.NmFunc}
	if !slices.Equal(kinds, []int{1, 2, 3, 4, 5}) {
		t.Error("kinds", kinds)
	}
	codes := []int{impl.SrLimit, impl.SrTwice, impl.SrNone, impl.SrKind, impl.SrArgs, impl.SrMain}
	if !slices.Equal(codes, []int{8, 9, 10, 11, 12, 13}) {
		t.Error("codes", codes)
	}
}

func TestNameTable(t *testing.T) {
	for _, c := range []struct{ text, want string }{
		{"func main() { }", "func main() @0"},
		{"func main(){var y,x;ref b,a;var w;}", "func main() y x w *b *a @5"},
		{"func z(y, x) { } func main() { } func a(z1) { ref r; var s; }", "func z(y x) @2 | func main() @4 | func a(z1) s *r @9"},
		{"var z; array y[1]; var x; array w[64]; func main() { } var a; array b[7];",
			"array y[1] | array w[64] | array b[7] | var z | var x | var a | func main() @4"},
		{inNamed("i = 1;"), "array a[3] | array b[1] | var g | var h | func f() @4 | func k(x y) @10 | func main() i j *p *q @18"},
		{"func f(x) { } func g(x) { } func main() { var x; }", "func f(x) @1 | func g(x) @4 | func main() x @7"},
		{"func f() { ref x; } func main() { var x; x = 1; }", "func f() *x @1 | func main() x @6"},
	} {
		if got := tableText(checkTaken(t, c.text)); got != c.want {
			t.Errorf("NameTable(%q) is %q, not %q", c.text, got, c.want)
		}
	}
}

func TestNameTwiceInProgram(t *testing.T) {
	forms := []string{"array NAME[1];", "var NAME;", "func NAME() { }"}
	for _, first := range forms {
		for _, second := range forms {
			text := strings.ReplaceAll(first, "NAME", "n") + " var o; func main() { } " + strings.ReplaceAll(second, "NAME", "@n")
			checkNames(t, impl.SrTwice, text)
		}
	}
	checkNames(t, impl.SrTwice,
		"func main() { } func @main() { }",
		"func main() { } var @main;",
		"array main[1]; func @main() { }",
		"var a; var b; var @a; var a; var b; func main() { }",
	)
}

// declared are so many declarations, each of its own name.
func declared(form string, count int) string {
	text := ""
	for i := range count {
		text += strings.ReplaceAll(form, "NAME", form[:1]+strconv.Itoa(i))
	}
	return text
}

func TestNameLimitsOfProgram(t *testing.T) {
	main := "func main() { } "
	for _, c := range []struct {
		form string
		most int
	}{{"array NAME[1]; ", 4}, {"var NAME; ", 4}, {"func NAME() { } ", 5}} {
		over := strings.ReplaceAll(c.form, "NAME", "@over")
		twice := strings.ReplaceAll(c.form, "NAME", "@"+c.form[:1]+"0")
		all := declared(c.form, c.most)
		checkAllTaken(t, all+main, main+all)
		checkNames(t, impl.SrLimit, main+all+over, main+all+over+strings.ReplaceAll(c.form, "NAME", "more"))
		checkNames(t, impl.SrTwice, main+all+twice)
	}
	checkTaken(t, declared("array NAME[64]; ", 4)+declared("func NAME() { } ", 5)+declared("var NAME; ", 4)+main)
	checkNames(t, impl.SrLimit, declared("func NAME() { } ", 6)+"func @main() { }")
	for _, size := range []string{"1", "2", "63", "64"} {
		checkTaken(t, "func main() { } array a["+size+"];")
	}
	for _, size := range []string{"0", "65", "100", "2147483647"} {
		checkNames(t, impl.SrLimit, "func main() { } array @a["+size+"];", "array b[1]; array @a["+size+"]; array c[1];")
	}
}

// Declaration by declaration: what comes first in the text is told, whichever of the two codes it has.
func TestNameOrderOfDeclarations(t *testing.T) {
	checkNames(t, impl.SrLimit,
		"array @a[0]; array b[1]; array b[1]; func main() { }",
		"var a; var b; var c; var d; var @e; var e; func main() { }",
		"array @a[65]; array a[1]; array a[0];",
		"func f() { } array @a[65]; func f() { }",
	)
	checkNames(t, impl.SrTwice,
		"array b[1]; array @b[0]; array a[0]; func main() { }",
		"array a[1]; array b[1]; array c[1]; array d[1]; array @a[0];",
		"var a; var @a; var b; var c; var d; func main() { }",
	)
}

func TestNameTwiceInFunction(t *testing.T) {
	checkNames(t, impl.SrTwice,
		"func main() { var x, @x; }",
		"func main() { var x; var @x; }",
		"func main() { var x; ref @x; }",
		"func main() { ref x; var @x; }",
		"func main() { ref x, y, @x; }",
		"func f(x, @x) { } func main() { }",
		"func f(x, y, @x) { } func main() { }",
		"func f(x) { var y, @x; } func main() { }",
		"func f(x) { ref @x; } func main() { }",
		"func main() { var x, y, @y, x; }",
	)
}

// A name of the program is that of no local, wherever it is declared.
func TestNameOfLocalAndProgram(t *testing.T) {
	for _, form := range []string{"array n[1];", "var n;", "func n() { }"} {
		for _, function := range []string{"func main() { var @n; }", "func main() { var x; ref @n; }", "func main() { } func f(x, @n) { }"} {
			checkNames(t, impl.SrTwice, form+" "+function, function+" "+form)
		}
	}
	checkNames(t, impl.SrTwice, "func main() { var @main; }", "func f(@f) { } func main() { }", "func f() { ref @main; } func main() { }")
}

func TestNameLimitsOfFunction(t *testing.T) {
	checkAllTaken(t,
		"func main() { ref a, b, c; }",
		"func main() { ref a; ref b; ref c; }",
		"func main() { var a, b, c, d, e, f, g, h; }",
		"func main() { var a, b, c, d; ref i; var e, f; ref j; var g, h; ref k; }",
		"func f(a, b, c) { } func main() { }",
		"func f(a, b, c) { var d, e, f1, g, h; ref i, j, k; } func main() { }",
		"func f(a) { var b, c, d, e, f1, g, h; } func g1(a, b, c) { var d, e, f1, g, h; } func main() { var a, b, c, d, e, f1, g, h; }",
	)
	checkNames(t, impl.SrLimit,
		"func main() { ref a, b, c, @d; }",
		"func main() { ref a; var x; ref b; var y; ref c; var z; ref @d, e; }",
		"func main() { var a, b, c, d, e, f, g, h, @i; }",
		"func main() { var a, b, c, d, e, f, g, h; ref r; var @i, j; }",
		"func f(a, b, c, @d) { } func main() { }",
		"func f(a, b, c, @d, e, g, h, i, j) { } func main() { }",
		"func f(a, b, c) { var d, e, g, h, i, @j; } func main() { }",
		"func f(a) { var b, c, d, e, g, h, i, @j; } func main() { }",
	)
}

func TestNameOrderOfLocals(t *testing.T) {
	checkNames(t, impl.SrTwice,
		"func main() { ref a, b, c, @a; }",
		"func main() { ref a, b, c; ref @g; } var g;",
		"func f(a, b, c, @a) { } func main() { }",
		"func main() { var a, b, c, d, e, f, g, h, @a; }",
		"func main() { var x, @x; ref a, b, c, d; }",
		"func f(x) { var @x; } func main() { ref a, b, c, d; }",
	)
	checkNames(t, impl.SrLimit,
		"func main() { ref a, b, c, @d, d; }",
		"func main() { ref a, b, c, @d; var x, x; }",
		"func f(a, b, c, @d) { } func main() { var x, x; }",
	)
}

func TestNameMain(t *testing.T) {
	checkNames(t, impl.SrMain,
		"@", "@ ", "@# main", "@func f() { }", "@ \n func f() { }", "@array main[1];", "@var main;", "@func main(x) { }", "@func main(x, y, z) { var w; }",
		"@func main0() { }", "@func f() { } func mai() { }", "@func f() { var x; x = f(); }",
	)
	checkAllTaken(t, "func main() { }", "func main() { var x; ref p; }", "func f() { } func main() { }", "func main() { } func f(x) { }")
}

// Each of the four is looked for in the whole text ahead of the next one.
func TestNameOrderOfStages(t *testing.T) {
	checkNames(t, impl.SrTwice, "func f() { var x, x; y = 1; } var g; var @g;")
	checkNames(t, impl.SrLimit, "func f() { var x, x; y = 1; } array @a[0];")
	checkNames(t, impl.SrTwice, "func f() { y = 1; } func g() { var x, @x; }")
	checkNames(t, impl.SrTwice, "func main(x) { y = 1; } func g() { var x, @x; }")
	checkNames(t, impl.SrLimit, "func f() { y = 1; } func g() { ref a, b, c, @d; }")
	checkNames(t, impl.SrMain, "@func f() { y = 1; }", "@func main(x) { y = 1; }", "@func f() { var x; x = null; } func main(x) { }")
	checkNames(t, impl.SrNone, "func f() { @y = 1; } func main() { z = 1; }", "func main() { @y = 1; } func f() { z = 1; }")
	checkNames(t, impl.SrKind, "func main() { var x; @x[0] = y; } func f() { z = 1; }")
}

// nameForm is a statement with a NAME, marked where a fault is told, and which names of inNamed it may have.
type nameForm struct {
	statement string
	may       string
}

func nameForms() []nameForm {
	return []nameForm{
		{"i = @NAME;", "ghij"}, {"print 1 + @NAME;", "ghij"}, {"print -@NAME;", "ghij"}, {"a[@NAME] = 1;", "ghij"}, {"*p = @NAME;", "ghij"},
		{"return @NAME;", "ghij"}, {"assert 1 < @NAME;", "ghij"}, {"assert not @NAME == 1;", "ghij"}, {"p = &a[@NAME];", "ghij"},
		{"i = k(1, @NAME);", "ghij"}, {"p += @NAME;", "ghij"}, {"print a[@NAME];", "ghij"}, {"while @NAME < 1 { }", "ghij"},
		{"if null p or @NAME < 1 { }", "ghij"}, {"for i = @NAME .. 1 { }", "ghij"}, {"for i = 0 .. @NAME { }", "ghij"},
		{"print @NAME[0];", "ab"}, {"@NAME[0] = 1;", "ab"}, {"p = &@NAME[0];", "ab"},
		{"print @*NAME;", "pq"}, {"@*NAME = 1;", "pq"}, {"@NAME += 1;", "pq"}, {"assert @null NAME;", "pq"}, {"@NAME = &a[0];", "pq"},
		{"read @NAME;", "ghij"}, {"@NAME = f();", "ghij"}, {"@NAME = k(1, 2);", "ghij"}, {"@NAME = 1;", "ghij"}, {"@NAME = g + i;", "ghij"},
		{"for @NAME = 0 .. 1 { }", "ij"}, {"for i = 0 .. 1 { for @NAME = 0 .. 1 { } }", "j"},
		{"for i = 0 .. 1 { read @NAME; }", "ghj"}, {"for i = 0 .. 1 { @NAME = 1; }", "ghj"}, {"for i = 0 .. 1 { @NAME = f(); }", "ghj"},
	}
}

// Every form with every name: it is taken, or the name is none, or it stands for something else.
func TestNameOfEveryForm(t *testing.T) {
	for _, form := range nameForms() {
		for _, name := range strings.Split("a b g h f k main i j p q z x zz", " ") {
			statement := strings.ReplaceAll(form.statement, "NAME", name)
			switch {
			case len(name) == 1 && strings.Contains(form.may, name):
				checkNamedTaken(t, strings.ReplaceAll(statement, "@", ""))
			case slices.Contains([]string{"z", "x", "zz"}, name):
				checkNamed(t, impl.SrNone, statement)
			default:
				checkNamed(t, impl.SrKind, statement)
			}
		}
	}
}

func TestNameOfReferences(t *testing.T) {
	checkNamedTaken(t, "p = q;", "p = p;", "p = null;", "p = (q);", "p = ((p)); q = p;", "for i = 0 .. 1 { p = null; p = q; }")
	for _, term := range []string{"1", "i", "g", "z", "a", "f", "main", "-q", "--q", "q + 1", "0 - q", "q | q", "*q", "a[0]", "a[z]", "q[0]", "z[z]", "z + z", "(z)", "-z"} {
		checkNamed(t, impl.SrKind, "@p = "+term+";", "q = p; @q = "+term+"; z = z;")
	}
	checkNamed(t, impl.SrKind, "@p = f();", "@p = k(z, z);", "@p = z();", "i = @q;", "i = 1 + @q;", "g = (@p);", "i = @p + z;")
}

func TestNameOfNull(t *testing.T) {
	checkNamed(t, impl.SrKind, "i = @null;", "g = @null;", "for i = 0 .. 1 { j = @null; }", "for i = 0 .. 1 { @i = null; }",
		"@a = null;", "@f = null;", "@main = null;")
	checkNamed(t, impl.SrNone, "@z = null;")
}

func TestNameBusy(t *testing.T) {
	checkNamedTaken(t,
		"for i = 0 .. 3 { } i = 1; read i; i = f(); for i = 0 .. 3 { }",
		"for i = i .. i + 1 { j = i; print i; a[i] = i; p = &a[i]; p += i; *p = i; j = k(i, i); }",
		"for i = 0 .. 3 { for j = i .. 3 { } j = 1; read j; j = f(); for j = 0 .. 1 { } }",
		"for i = 0 .. 3 { g = i; read g; g = f(); p = null; }",
		"for i = 0 .. 3 { if i < 1 { j = 1; } else { read j; } while i < 1 { j = f(); } }",
		"for i = 0 .. 3 { for j = 0 .. 3 { } } i = j; j = i;",
	)
	checkNamed(t, impl.SrKind,
		"for i = 0 .. 3 { @i = 1; }",
		"for i = 0 .. 3 { read @i; }",
		"for i = 0 .. 3 { @i = f(); }",
		"for i = 0 .. 3 { @i = z(z); }",
		"for i = 0 .. 3 { @i = z; }",
		"for i = 0 .. 3 { @i += 1; }",
		"for i = 0 .. 3 { for @i = z .. z { z = 1; } }",
		"for i = 0 .. 3 { for j = 0 .. 3 { @i = 1; } }",
		"for i = 0 .. 3 { for j = 0 .. 3 { @j = 1; } }",
		"for i = 0 .. 3 { for j = 0 .. 3 { } @i = 1; }",
		"for i = 0 .. 3 { for j = 0 .. 3 { } j = 1; read @i; }",
		"for i = 0 .. 3 { if i < 1 { @i = 1; } }",
		"for i = 0 .. 3 { if i < 1 { } else { read @i; } }",
		"for i = 0 .. 3 { while i < 1 { @i = f(); } }",
		"for j = 0 .. 3 { while i < 1 { if i < 1 { for i = 0 .. 1 { print i; } for @j = 0 .. 1 { } } } }",
		"for @g = 0 .. 3 { }",
	)
	checkAllTaken(t,
		"func f() { var i; i = 1; return i; } func main() { var i, j; for i = 0 .. 1 { j = f(); } }",
		"func f() { var i; for i = 0 .. 1 { } } func main() { var i; i = 1; }",
		"func f(x) { for x = 0 .. 1 { print x; } x = 1; } func main() { }",
	)
	checkNames(t, impl.SrKind, "func f(x) { for x = 0 .. 1 { @x = 1; } } func main() { }")
}

// A call: the name, what is called, how many terms, the terms.
func TestNameOrderOfCall(t *testing.T) {
	checkNamedTaken(t, "i = f();", "i = k(1, 2);", "i = main();", "g = k(i, g);", "i = k(a[i], *p);")
	checkNamed(t, impl.SrNone, "@z = zz(zzz);", "i = @zz(zzz);", "@z = f(1);", "i = k(@zzz, zz);", "i = k(1, @zzz);", "i = k(1, 1 + a[@zzz]);", "i = @zz();")
	checkNamed(t, impl.SrKind, "@a = zz(zzz);", "@p = f(1);", "i = @a(zzz);", "i = @g(1);", "i = @j();", "i = @i();", "i = @p();", "i = k(@p, z);", "i = k(i, @a);")
	checkNamed(t, impl.SrArgs, "i = @f(1);", "i = @f(zzz);", "i = @k();", "i = @k(1);", "i = @k(zzz);", "i = @k(1, 2, 3);", "i = @k(zzz, 2, 3);", "i = @main(1);")
	checkAllTaken(t, "func main() { var x; x = f(1, 2, 3); } func f(a, b, c) { }", "func f(x) { x = f(x); } func main() { }")
	checkNames(t, impl.SrArgs, "func main() { var x; x = @f(); } func f(a) { var b; }", "func f(x) { x = @f(); } func main() { }")
}

// A node ahead of what is below it, and that in the order of its Kids.
func TestNameOrderOfNodes(t *testing.T) {
	checkNamed(t, impl.SrNone,
		"@z = zz;", "@z[zz] = zzz;", "a[@zz] = zzz;", "a[0] = @zzz;", "@*z = zz;", "*p = @zz;", "@z += zz;", "p += @zz;",
		"@z = &zz[zzz];", "p = &@zz[zzz];", "p = &a[@zzz];", "print @z[zz];", "print a[@zz];", "print @z + zz;", "print 1 + @zz;", "print (@z * zz) + zzz;",
		"if @z < zz { zzz = 1; }", "if 1 < @zz { zzz = 1; } else { z = 1; }", "if 1 < 2 { @zzz = 1; } else { z = 1; }", "if 1 < 2 { } else { @z = 1; }",
		"while @z < 1 { zz = 1; }", "while 1 < 2 { @zz = 1; }", "for @z = zz .. zzz { z = 1; }", "for i = @zz .. zzz { z = 1; }",
		"for i = 0 .. @zzz { z = 1; }", "for i = 0 .. 1 { @z = 1; }", "assert @z < 1 and zz < 1;", "assert 1 < 2 or @zz < 1;",
		"assert not [@null z or null zz];", "i = 1; @z = 1; zz = 1;", "read @z; read zz;", "return @z; return zz;",
	)
}

func TestNameOfAnotherFunction(t *testing.T) {
	others := "func f(x) { var y; ref p; x = y; y = x; p = p; } func main() { var i; ref q; "
	for _, statement := range []string{"@x = 1;", "i = @y;", "@p = null;", "q = &@y[0];", "read @x;", "print @*p;", "for @y = 0 .. 1 { }", "i = @x();"} {
		checkNames(t, impl.SrNone, others+statement+" }")
		checkNames(t, impl.SrNone, others+"} func h() { var i; ref q; "+statement+" }")
	}
	checkNames(t, impl.SrNone, "func main() { var i; } func f() { @i = 1; }")
	checkNames(t, impl.SrKind, others+"@q = p; }")
	checkTaken(t, "func f() { var x; ref y; x = 1; y = null; } func main() { ref x; var y; x = null; y = 1; }")
}

// What ParseTree refuses is told as it tells it, whatever else is wrong.
func TestNameOfWhatIsNotRead(t *testing.T) {
	names := "array a[0]; array a[0]; func f(f, f) { z = zz; "
	checkNotTaken(t, names+strings.Repeat(" ", 3000), impl.Fault{Code: impl.SrLong})
	checkNames(t, impl.SrByte, names+"@! }")
	checkNames(t, impl.SrName, names+"@abcdefghi = 1; }")
	checkNames(t, impl.SrNumber, names+"z = @2147483648; }")
	checkNames(t, impl.SrMany, names+strings.Repeat("z=1;", 169)+"@}")
	checkNames(t, impl.SrSyntax, names+"z = @; }", names+"@", "@z = 1;", names+"} @}")
	checkNames(t, impl.SrDeep, names+"z = "+strings.Repeat("(", 10)+"@1;")
	for _, text := range sampleTexts() {
		if _, fault := impl.ParseTree(text); fault != (impl.Fault{}) {
			checkNotTaken(t, text, fault)
		}
	}
}

// Also programs that are long, or nested as far as may be.
func TestNameOfLargePrograms(t *testing.T) {
	for _, statement := range []string{
		"i = 1" + strings.Repeat("+i", 290) + ";",
		strings.Repeat("i=i;", 140),
		"assert " + strings.Repeat("not ", 9) + "null p;",
		strings.Repeat("if i<1{", 9) + strings.Repeat("}", 9),
		"i = " + strings.Repeat("(", 9) + "j" + strings.Repeat(")", 9) + ";",
	} {
		checkNamedTaken(t, statement)
		checkNamed(t, impl.SrNone, statement+"@z = 1;")
	}
	checkNamed(t, impl.SrNone, "i = 1"+strings.Repeat("+i", 290)+"+@z;")
}
