package tests

import (
	"math"
	"regexp"
	"slices"
	"strings"
	"testing"

	"loop.example/sedge/impl"
)

func allWords() []string {
	return []string{"array", "var", "ref", "func", "if", "else", "while", "for", "read", "print", "assert", "stop",
		"return", "and", "or", "not", "null"}
}

func allSigns() []string {
	return strings.Fields("+% -% *% << >> == != <= >= .. += + - * / % & | ^ < > = ( ) { } [ ] , ;")
}

// How a token and what stands between tokens look, said another way than the program says it.
var (
	lexGap   = regexp.MustCompile(`^(?:[ \n]|#[^\n]*)*`)
	lexName  = regexp.MustCompile(`^[a-z][a-z0-9]*`)
	lexDigit = regexp.MustCompile(`^[0-9]+`)
	lexNum   = regexp.MustCompile(`^(0|[1-9][0-9]{0,9})$`)
)

// longestSign is the longest sign at the head of a text.
func longestSign(text string) string {
	best := ""
	for _, sign := range allSigns() {
		if strings.HasPrefix(text, sign) && len(sign) > len(best) {
			best = sign
		}
	}
	return best
}

// passOver is how many bytes at the head of a text are in no token.
func passOver(text string) int {
	return len(lexGap.FindString(text))
}

// numberOf is what digits stand for, and false when they are no number.
func numberOf(run string) (int, bool) {
	if !lexNum.MatchString(run) {
		return 0, false
	}
	v := 0
	for _, digit := range []byte(run) {
		v = v*10 + int(digit) - '0'
	}
	return v, v <= impl.NumMax
}

// headToken is the token at the head of a text, or the code of what is wrong with it.
func headToken(text string) (impl.Token, int) {
	if run := lexName.FindString(text); run != "" {
		if len(run) > 8 {
			return impl.Token{}, impl.SrName
		}
		if slices.Contains(allWords(), run) {
			return impl.Token{Kind: impl.TkWord, Text: run}, 0
		}
		return impl.Token{Kind: impl.TkName, Text: run}, 0
	}
	if run := lexDigit.FindString(text); run != "" {
		v, ok := numberOf(run)
		if !ok {
			return impl.Token{}, impl.SrNumber
		}
		return impl.Token{Kind: impl.TkNumber, Text: run, Num: v}, 0
	}
	if sign := longestSign(text); sign != "" {
		return impl.Token{Kind: impl.TkSign, Text: sign}, 0
	}
	return impl.Token{}, impl.SrByte
}

// wantedTokens is what the document asks of LexTokens.
func wantedTokens(text string) ([]impl.Token, impl.Fault) {
	if len(text) > 3000 {
		return nil, impl.Fault{Code: impl.SrLong}
	}
	var list []impl.Token
	at := passOver(text)
	for at < len(text) {
		token, code := headToken(text[at:])
		if code == 0 && len(list) == 700 {
			code = impl.SrMany
		}
		if code != 0 {
			return nil, impl.Fault{Code: code, At: at}
		}
		token.At = at
		list = append(list, token)
		at += len(token.Text)
		at += passOver(text[at:])
	}
	return list, impl.Fault{}
}

// checkTokens holds LexTokens against what the document asks.
func checkTokens(t *testing.T, text string) ([]impl.Token, impl.Fault) {
	t.Helper()
	list, fault := impl.LexTokens(text)
	wantList, wantFault := wantedTokens(text)
	if fault != wantFault || !slices.Equal(list, wantList) {
		t.Errorf("LexTokens(%.80q), %d bytes: %d tokens and %v, not %d and %v", text, len(text), len(list), fault, len(wantList), wantFault)
	}
	return list, fault
}

// unplaced are tokens without their places.
func unplaced(list []impl.Token) []impl.Token {
	list = slices.Clone(list)
	for i := range list {
		list[i].At = 0
	}
	return list
}

// sampleTokens are pieces of which texts are made; the last two are two tokens each.
func sampleTokens() []string {
	list := append(allWords(), allSigns()...)
	list = append(list, "a", "z", "x1", "a0b1c2d3", "abcdefgh", "iff", "i", "0", "1", "10", "100", "907", "2147483647", "12ab", "7if")
	return list
}

// wrongPieces are such that no text has them outside of remarks, unless something stands beside them.
func wrongPieces() []string {
	return []string{"!", ".", "~", "X", "_", "\t", "\r", "\x00", "\x80", "\xff", "é", "\"", "abcdefghi", "if0000000", "00", "01", "2147483648", "18446744073709551617"}
}

// sampleGaps are what may stand between tokens; those with a remark end it.
func sampleGaps() []string {
	return []string{" ", "\n", "  ", " \n ", "\n\n", "#\n", "# so\n", " # if x ! \x80\xff é\t # 00\n  ", "##\n#\n", "#abcdefghi\n"}
}

// sampleTexts are texts of tokens, gaps and, now and then, something wrong.
func sampleTexts() []string {
	d := newDice()
	tokens, gaps, wrong := sampleTokens(), sampleGaps(), wrongPieces()
	list := []string{"", " ", "\n", "#", "# so", "x#", "x1 = 10+%y; # so\nif", "a<<=b", "1..2", "1...2", "+=%", "--%", "<<<", "===", "!=="}
	for i := range 3000 {
		var text strings.Builder
		for range d.roll(12) {
			if d.roll(3) > 0 {
				text.WriteString(pick(d, gaps))
			}
			text.WriteString(pick(d, tokens))
			if i%4 == 0 && d.roll(8) == 0 {
				text.WriteString(pick(d, wrong))
			}
		}
		text.WriteString(pick(d, []string{"", " ", "\n", "#", "# the end", "# if\n"}))
		list = append(list, text.String())
	}
	return list
}

func TestLexConstants(t *testing.T) {
	if impl.SrcMaxText != 3000 || impl.SrcMaxTokens != 700 || impl.SrcMaxName != 8 {
		t.Error("limits", impl.SrcMaxText, impl.SrcMaxTokens, impl.SrcMaxName)
	}
	kinds := []int{impl.TkName, impl.TkNumber, impl.TkWord, impl.TkSign}
	codes := []int{impl.SrLong, impl.SrByte, impl.SrName, impl.SrNumber, impl.SrMany}
	if !slices.Equal(kinds, []int{1, 2, 3, 4}) || !slices.Equal(codes, []int{1, 2, 3, 4, 5}) {
		t.Error("kinds and codes", kinds, codes)
	}
}

func TestWordOk(t *testing.T) {
	for _, word := range allWords() {
		if !impl.WordOk(word) {
			t.Errorf("%q is no word", word)
		}
		for _, other := range []string{word + "s", word[:len(word)-1], " " + word, word + " ", strings.ToUpper(word), word + "0"} {
			if impl.WordOk(other) {
				t.Errorf("%q is a word", other)
			}
		}
	}
	for _, other := range []string{"", " ", "main", "x", "do", "int", "true", "xor", "1", "+", "array var", "\x00", strings.Repeat("if", 5000)} {
		if impl.WordOk(other) {
			t.Errorf("%q is a word", other)
		}
	}
}

func TestSignAtTellsTheLongest(t *testing.T) {
	parts := append(allSigns(), "", "a", "1", " ", "!", ".", "\xff")
	for _, sign := range allSigns() {
		for _, ahead := range parts {
			for _, behind := range parts {
				text := ahead + sign + behind
				for at := range text {
					if got, want := impl.SignAt(text, at), longestSign(text[at:]); got != want {
						t.Errorf("SignAt(%q, %d) is %q, not %q", text, at, got, want)
					}
				}
			}
		}
	}
}

func TestSignAtEveryByte(t *testing.T) {
	for b := range 256 {
		text := string([]byte{'a', byte(b)})
		if got, want := impl.SignAt(text, 1), longestSign(text[1:]); got != want {
			t.Errorf("SignAt(%q, 1) is %q, not %q", text, got, want)
		}
	}
}

func TestSignAtPlaces(t *testing.T) {
	long := strings.Repeat("+", 5000)
	for _, text := range []string{"", "+", "+%", "a+", long} {
		for _, at := range []int{math.MinInt, -4294967296, -2, -1, len(text), len(text) + 1, 4294967296, math.MaxInt} {
			if got := impl.SignAt(text, at); got != "" {
				t.Errorf("SignAt(%.10q, %d) is %q", text, at, got)
			}
		}
	}
	if got := impl.SignAt(long, 4999); got != "+" {
		t.Errorf("the last byte of a long text is %q", got)
	}
}

func TestLexTokensOfTexts(t *testing.T) {
	met := map[int]int{}
	for _, text := range sampleTexts() {
		_, fault := checkTokens(t, text)
		met[fault.Code]++
	}
	for _, code := range []int{0, impl.SrByte, impl.SrName, impl.SrNumber} {
		if met[code] == 0 {
			t.Errorf("no text has the code %d", code)
		}
	}
}

func TestLexTokensWrittenOut(t *testing.T) {
	list, fault := impl.LexTokens(" while7 while #while\n12ab>>=0# 3\n;")
	want := []impl.Token{
		{Kind: impl.TkName, At: 1, Text: "while7"}, {Kind: impl.TkWord, At: 8, Text: "while"},
		{Kind: impl.TkNumber, At: 21, Text: "12", Num: 12}, {Kind: impl.TkName, At: 23, Text: "ab"},
		{Kind: impl.TkSign, At: 25, Text: ">>"}, {Kind: impl.TkSign, At: 27, Text: "="},
		{Kind: impl.TkNumber, At: 28, Text: "0"}, {Kind: impl.TkSign, At: 33, Text: ";"},
	}
	if fault != (impl.Fault{}) || !slices.Equal(list, want) {
		t.Error(list, fault)
	}
}

// lexCase is a text, how many tokens it has, or what is wrong and where.
type lexCase struct {
	text  string
	count int
	code  int
	at    int
}

func checkCases(t *testing.T, cases []lexCase) {
	t.Helper()
	for _, c := range cases {
		list, fault := checkTokens(t, c.text)
		if len(list) != c.count || fault != (impl.Fault{Code: c.code, At: c.at}) {
			t.Errorf("LexTokens(%.60q), %d bytes: %d tokens and %v, not %d and {%d %d}", c.text, len(c.text), len(list), fault, c.count, c.code, c.at)
		}
	}
}

func TestLexTokensOfRemarks(t *testing.T) {
	checkCases(t, []lexCase{
		{"", 0, 0, 0}, {"#", 0, 0, 0}, {"#\n", 0, 0, 0}, {"# so", 0, 0, 0}, {"# so\n", 0, 0, 0}, {"##x\n#y", 0, 0, 0},
		{"x#", 1, 0, 0}, {"x # y", 1, 0, 0}, {"x # y\n", 1, 0, 0}, {"x # y\nz", 2, 0, 0}, {"x#\n\nz#", 2, 0, 0},
		{"# \x00\x80\xff! 00\r\nx", 1, 0, 0}, {"#\r!", 0, 0, 0}, {"#\n!", 0, impl.SrByte, 2}, {"x\r", 0, impl.SrByte, 1},
	})
}

func TestLexTokensOfNames(t *testing.T) {
	long := strings.Repeat("a", 3000)
	checkCases(t, []lexCase{
		{"abcdefgh", 1, 0, 0}, {"a2345678", 1, 0, 0}, {"return12", 1, 0, 0}, {"abcdefghi", 0, impl.SrName, 0},
		{"a23456789", 0, impl.SrName, 0}, {"return123", 0, impl.SrName, 0}, {"x abcdefghi !", 0, impl.SrName, 2},
		{"! abcdefghi", 0, impl.SrByte, 0}, {"abcdefgh+abcdefgh", 3, 0, 0}, {"abcdefghX", 0, impl.SrByte, 8},
		{long, 0, impl.SrName, 0}, {"if", 1, 0, 0}, {"if(", 2, 0, 0}, {"nullnull", 1, 0, 0},
		{"null+null", 3, 0, 0}, {"notnullif", 0, impl.SrName, 0},
	})
}

func TestLexTokensOfNumbers(t *testing.T) {
	checkCases(t, []lexCase{
		{"0", 1, 0, 0}, {"9", 1, 0, 0}, {"10", 1, 0, 0}, {"100", 1, 0, 0}, {"2010305", 1, 0, 0}, {"2147483647", 1, 0, 0},
		{"2147483648", 0, impl.SrNumber, 0}, {"4294967296", 0, impl.SrNumber, 0}, {"9999999999", 0, impl.SrNumber, 0},
		{"21474836470", 0, impl.SrNumber, 0}, {"18446744073709551616", 0, impl.SrNumber, 0}, {"18446744073709551617", 0, impl.SrNumber, 0},
		{strings.Repeat("9", 3000), 0, impl.SrNumber, 0}, {"1" + strings.Repeat("0", 2999), 0, impl.SrNumber, 0},
		{"00", 0, impl.SrNumber, 0}, {"01", 0, impl.SrNumber, 0}, {" 007", 0, impl.SrNumber, 1}, {strings.Repeat("0", 3000), 0, impl.SrNumber, 0},
		{"0 0", 2, 0, 0}, {"0a", 2, 0, 0}, {"12ab", 2, 0, 0}, {"12ab34", 2, 0, 0}, {"1if", 2, 0, 0}, {"123456789a", 2, 0, 0},
		{"1abcdefgh", 2, 0, 0}, {"1abcdefghi", 0, impl.SrName, 1}, {"00abcdefghi", 0, impl.SrNumber, 0}, {"-1", 2, 0, 0}, {"1..2", 3, 0, 0},
		{"1.2", 0, impl.SrByte, 1}, {"2147483647a", 2, 0, 0}, {"2147483648a", 0, impl.SrNumber, 0}, {"1X", 0, impl.SrByte, 1},
	})
}

func TestLexTokensOfBytes(t *testing.T) {
	for b := range 256 {
		for _, ahead := range []string{"", "x ", "#\n", "12", "+"} {
			checkTokens(t, ahead+string([]byte{byte(b)}))
			checkTokens(t, ahead+string([]byte{byte(b)})+"=")
		}
	}
	for _, text := range []string{"\x80", "é", "\xc3\xa9", "\xff", "\x00", "\t", "\r", "A", "_", "!", ".", ":", "$", "@", "'", "`", "\\", "?", "~", "\x7f"} {
		checkCases(t, []lexCase{{text, 0, impl.SrByte, 0}, {"x\n " + text + "x", 0, impl.SrByte, 3}})
	}
}

func TestLexTokensOfLongTexts(t *testing.T) {
	remark := "# " + strings.Repeat("x", 2998)
	checkCases(t, []lexCase{
		{strings.Repeat(" ", 3000), 0, 0, 0}, {strings.Repeat(" ", 3001), 0, impl.SrLong, 0},
		{strings.Repeat("\n", 2999) + "x", 1, 0, 0}, {strings.Repeat("\n", 3000) + "x", 0, impl.SrLong, 0},
		{remark, 0, 0, 0}, {remark + "\n", 0, impl.SrLong, 0}, {"!" + remark, 0, impl.SrLong, 0},
		{strings.Repeat(";", 3001), 0, impl.SrLong, 0}, {strings.Repeat("00 ", 20000), 0, impl.SrLong, 0},
		{strings.Repeat(" ", 2999) + "!", 0, impl.SrByte, 2999},
	})
}

func TestLexTokensOfManyTokens(t *testing.T) {
	full := strings.Repeat("x;", 350)
	checkCases(t, []lexCase{
		{full, 700, 0, 0}, {strings.Repeat("a ", 700), 700, 0, 0}, {full + "# the end", 700, 0, 0}, {full + " \n#\n ", 700, 0, 0},
		{full + ";", 0, impl.SrMany, 700}, {full + "if", 0, impl.SrMany, 700}, {full + "12", 0, impl.SrMany, 700}, {full + "x", 0, impl.SrMany, 700},
		{full + " # so\n  12 !", 0, impl.SrMany, 708}, {full + "x x x", 0, impl.SrMany, 700},
		{full + " abcdefghi", 0, impl.SrName, 701}, {full + " 00", 0, impl.SrNumber, 701}, {full + "  !", 0, impl.SrByte, 702},
		{full[:698] + "! ;;;", 0, impl.SrByte, 698}, {full[:699] + ";;", 0, impl.SrMany, 700}, {full[:698] + ";!", 0, impl.SrByte, 699},
		{full[:698] + "; 12x", 0, impl.SrMany, 702}, {full[:698] + "12x", 700, 0, 0},
	})
}

func TestLexTokensAreNewMemory(t *testing.T) {
	text := "if x1 < 12 { stop; }"
	first, _ := impl.LexTokens(text)
	second, _ := impl.LexTokens(text)
	for i := range first {
		first[i] = impl.Token{}
	}
	if want, _ := wantedTokens(text); !slices.Equal(second, want) {
		t.Error("one answer is written into by another one", second)
	}
}

func TestPromise5TokensSurvive(t *testing.T) {
	d := newDice()
	joined := 0
	for _, text := range sampleTexts() {
		list, fault := impl.LexTokens(text)
		if fault != (impl.Fault{}) {
			continue
		}
		for i := range list {
			list[i].At = int(d.next()) - 1<<31
		}
		handed := slices.Clone(list)
		made, ok := impl.LexJoin(list)
		if !slices.Equal(list, handed) {
			t.Errorf("LexJoin wrote into the tokens of %q", text)
		}
		var texts []string
		for _, token := range list {
			texts = append(texts, token.Text)
		}
		if !ok || made != strings.Join(texts, " ") {
			t.Errorf("the tokens of %q are joined to %q, %v", text, made, ok)
		}
		again, fault := impl.LexTokens(made)
		if fault != (impl.Fault{}) || !slices.Equal(unplaced(again), unplaced(list)) {
			t.Errorf("the tokens of %q are not those of %q", text, made)
		}
		joined++
	}
	if joined < 1000 {
		t.Error("too few texts are read", joined)
	}
}

// Whatever tokens are joined, they are those of the text that is made, or there is none.
func TestPromise5OfAnyTokens(t *testing.T) {
	d := newDice()
	pieces := slices.Concat(sampleTokens(), wrongPieces(), []string{"", " ", "\n", "#", "a b", " a", "a ", "x#", "x\n", "+ %"})
	met := map[bool]int{}
	for range 20000 {
		var list []impl.Token
		for range d.roll(4) {
			piece := pick(d, pieces)
			token, _ := headToken(piece)
			if d.roll(6) == 0 {
				token = impl.Token{Kind: d.roll(6), Text: piece, Num: d.roll(2)}
			}
			token.At = d.roll(9)
			list = append(list, token)
		}
		made, ok := impl.LexJoin(list)
		met[ok]++
		checkJoin(t, list, made, ok)
	}
	if met[true] < 1000 || met[false] < 1000 {
		t.Error("tokens that join and do not", met)
	}
}

// checkJoin holds what LexJoin answered against what the document asks.
func checkJoin(t *testing.T, list []impl.Token, made string, ok bool) {
	t.Helper()
	var texts []string
	for _, token := range list {
		texts = append(texts, token.Text)
	}
	want := strings.Join(texts, " ")
	again, fault := wantedTokens(want)
	fits := fault == (impl.Fault{}) && slices.Equal(unplaced(again), unplaced(list))
	if !fits {
		want = ""
	}
	if ok != fits || made != want {
		t.Errorf("%v is joined to %q and %v, not to %q and %v", list, made, ok, want, fits)
	}
}

func TestLexJoinWrongTokens(t *testing.T) {
	x := impl.Token{Kind: impl.TkName, Text: "x"}
	wrong := []impl.Token{
		{}, {Kind: impl.TkName}, {Text: "x"}, {Kind: impl.TkWord, Text: "x"}, {Kind: impl.TkName, Text: "if"}, {Kind: 5, Text: "x"},
		{Kind: -1, Text: "x"}, {Kind: impl.TkName, Text: "x", Num: 1}, {Kind: impl.TkWord, Text: "if", Num: -1}, {Kind: impl.TkSign, Text: "+", Num: 1},
		{Kind: impl.TkNumber, Text: "12"}, {Kind: impl.TkNumber, Text: "12", Num: 13}, {Kind: impl.TkNumber, Text: "12", Num: 4294967296 + 12},
		{Kind: impl.TkNumber, Text: "012", Num: 12}, {Kind: impl.TkNumber, Text: "2147483648", Num: 2147483648},
		{Kind: impl.TkNumber, Text: "-1", Num: -1}, {Kind: impl.TkName, Text: "12"}, {Kind: impl.TkSign, Text: "!"},
		{Kind: impl.TkSign, Text: "+ %"}, {Kind: impl.TkSign, Text: "++"}, {Kind: impl.TkName, Text: "x y"}, {Kind: impl.TkName, Text: " x"},
		{Kind: impl.TkName, Text: "x "}, {Kind: impl.TkName, Text: "x#"}, {Kind: impl.TkName, Text: "#"}, {Kind: impl.TkName, Text: "#\nx"},
		{Kind: impl.TkName, Text: "abcdefghi"}, {Kind: impl.TkName, Text: "\xff"}, {Kind: impl.TkName, Text: "X"}, {Kind: impl.TkName, Text: "1x"},
	}
	for _, token := range wrong {
		for _, list := range [][]impl.Token{{token}, {token, x}, {x, token}, {x, token, x}} {
			if made, ok := impl.LexJoin(list); ok || made != "" {
				t.Errorf("%v is joined to %q, %v", list, made, ok)
			}
		}
	}
	if made, ok := impl.LexJoin([]impl.Token{{Kind: impl.TkName, Text: "# x"}, {Kind: impl.TkName, Text: "y"}}); ok || made != "" {
		t.Errorf("a remark is joined to %q, %v", made, ok)
	}
	if made, ok := impl.LexJoin([]impl.Token{{Kind: impl.TkName, Text: "x y"}, {Kind: impl.TkName, Text: "#"}}); ok || made != "" {
		t.Errorf("as many tokens, but others, are joined to %q, %v", made, ok)
	}
}

func TestLexJoinLimits(t *testing.T) {
	name := impl.Token{Kind: impl.TkName, Text: "abcdefgh"}
	sign := impl.Token{Kind: impl.TkSign, Text: ";"}
	cases := []struct {
		list []impl.Token
		size int
		ok   bool
	}{
		{nil, 0, true}, {[]impl.Token{}, 0, true}, {slices.Repeat([]impl.Token{sign}, 700), 1399, true}, {slices.Repeat([]impl.Token{sign}, 701), 0, false},
		{append(slices.Repeat([]impl.Token{name}, 333), impl.Token{Kind: impl.TkName, Text: "abc"}), 3000, true},
		{append(slices.Repeat([]impl.Token{name}, 333), impl.Token{Kind: impl.TkName, Text: "abcd"}), 0, false},
		{slices.Repeat([]impl.Token{name}, 700), 0, false}, {slices.Repeat([]impl.Token{{}}, 701), 0, false},
		{[]impl.Token{{Kind: impl.TkName, Text: strings.Repeat("x", 100000)}}, 0, false},
		{append(slices.Repeat([]impl.Token{sign}, 699), impl.Token{Text: strings.Repeat(" ", 3000)}), 0, false},
	}
	for i, c := range cases {
		if made, ok := impl.LexJoin(c.list); ok != c.ok || len(made) != c.size {
			t.Errorf("case %d: %d tokens are joined to %d bytes, %v", i, len(c.list), len(made), ok)
		}
	}
}

func TestPromise6EveryByte(t *testing.T) {
	read := 0
	for _, text := range sampleTexts() {
		list, fault := impl.LexTokens(text)
		if fault != (impl.Fault{}) {
			if len(list) != 0 {
				t.Errorf("%q has %d tokens beside %v", text, len(list), fault)
			}
			continue
		}
		read++
		at := 0
		for _, token := range list {
			if token.At < at || token.At+len(token.Text) > len(text) {
				t.Fatalf("%q: a token at %d, behind %d", text, token.At, at)
			}
			if gap := text[at:token.At]; passOver(gap) != len(gap) || strings.Contains(gap, "#") && !strings.Contains(gap, "\n") {
				t.Errorf("%q: %q is passed over", text, gap)
			}
			at = token.At + len(token.Text)
			if token.Text == "" || text[token.At:at] != token.Text {
				t.Errorf("%q: the token %v is not at its place", text, token)
			}
		}
		if gap := text[at:]; passOver(gap) != len(gap) {
			t.Errorf("%q: %q is passed over at the end", text, gap)
		}
	}
	if read < 1000 {
		t.Error("too few texts are read", read)
	}
}

func TestPromise7GapsDoNotMatter(t *testing.T) {
	d := newDice()
	gaps := sampleGaps()
	for _, text := range sampleTexts() {
		list, fault := impl.LexTokens(text)
		if fault != (impl.Fault{}) {
			continue
		}
		for range 3 {
			var other strings.Builder
			for range d.roll(3) {
				other.WriteString(pick(d, gaps))
			}
			for i, token := range list {
				next := i + 1
				other.WriteString(token.Text)
				if next < len(list) && list[next].At == token.At+len(token.Text) && d.roll(2) == 0 {
					continue
				}
				for range 1 + d.roll(2) {
					other.WriteString(pick(d, gaps))
				}
			}
			other.WriteString(pick(d, []string{"", " ", "\n", "#", "# so", "# so\n"}))
			again, fault := impl.LexTokens(other.String())
			if fault != (impl.Fault{}) || !slices.Equal(unplaced(again), unplaced(list)) {
				t.Errorf("%q has not the tokens of %q: %v", other.String(), text, fault)
			}
		}
	}
}
