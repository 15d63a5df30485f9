package ere_test

import (
	"slices"
	"strconv"
	"strings"
	"testing"

	"palinode/api"
	"palinode/bre"
	"palinode/class"
	"palinode/ere"
	"palinode/tree"
)

// answers asks that Parse tells want of b; and that the model of the tests says so too.
func answers(t *testing.T, b, want string) {
	t.Helper()
	got := parse(b)
	if got.String() != want || got.e == api.OK && (got.at != 0 || !tree.Right(got.re)) {
		t.Errorf("%.99q: %.999v, want %.999s", b, got, want)
	}
	if m := modelOf(b); !same(got, m) {
		t.Errorf("%.99q: %.999v, by the model: %.999v", b, got, m)
	}
}

// means asks that the tree of b has these nodes, and as many groups as are told there.
func means(t *testing.T, b, nodes string) {
	t.Helper()
	answers(t, b, nodes)
	if got := parse(b).re.Groups; got != strings.Count(nodes, " G") {
		t.Errorf("%.99q: %d groups", b, got)
	}
}

// fails asks that b is wrong by e at the place at.
func fails(t *testing.T, b string, at int, e api.Errno) {
	t.Helper()
	answers(t, b, wrong(at, e).String())
	if re := parse(b).re; len(re.Nodes) != 0 || re.Groups != 0 {
		t.Errorf("%.99q: %d nodes, %d groups", b, len(re.Nodes), re.Groups)
	}
}

// failsAnywhere asks that b is wrong by e at its place at, at the text's beginning, and behind what may stand ahead of any piece, too.
func failsAnywhere(t *testing.T, b string, at int, e api.Errno) {
	t.Helper()
	for _, ahead := range []string{"", "x", "x*", "^x", "(x)", "x|", "x|yy|", "(x|y)|", "[x]", "^", "$", "a$", `\n`, "x{2,3}", "]", "}", strings.Repeat("x", 300)} {
		fails(t, ahead+b, len(ahead)+at, e)
	}
}

// eachText hands over all texts of up to most of these words.
func eachText(words []string, most int, do func(string)) {
	var grow func(string, int)
	grow = func(b string, left int) {
		do(b)
		if left == 0 {
			return
		}
		for _, w := range words {
			grow(b+w, left-1)
		}
	}
	grow("", most)
}

// setText tells the set of one byte as means wants it.
func setText(c byte) string { return nodeText(api.Node{Kind: api.NSet, Set: class.Of(c)}) }

// P9.1: no byte at all is the empty one.
func TestNoByte(t *testing.T) {
	means(t, "", "E")
	for _, b := range [][]byte{nil, {}, []byte("a")[:0]} {
		if re, at, e := ere.Parse(b); !tree.Same(re, api.Re{Nodes: []api.Node{{Kind: api.NEmpty}}}) || at != 0 || e != api.OK {
			t.Error(re, at, e)
		}
	}
}

// P9.1: bytes that mean nothing else are themselves, each of the 256, wherever they stand.
func TestBytes(t *testing.T) {
	for c := range 256 {
		one := string([]byte{byte(c)})
		if strings.Contains(`\[.^$*+?{()|`, one) {
			continue
		}
		s := setText(byte(c))
		means(t, one, s)
		means(t, one+"*", s+" R0{0,}")
		means(t, "x"+one+"y", "[x] "+s+" [y] C0,1 C3,2")
		means(t, "^"+one+"$", "^ "+s+" $ C0,1 C3,2")
		means(t, "("+one+")", s+" G1:0")
		means(t, one+"|"+one, s+" "+s+" A0,1")
	}
	means(t, "}", "[}]")
	means(t, "]", "[[.].]]")
	means(t, "}*]+", "[}] R0{0,} [[.].]] R2{1,} C1,3")
	means(t, "a}", "[a] [}] C0,1")
	means(t, "a2}", "[a] [2] [}] C0,1 C3,2")
	means(t, "a{2}}", "[a] R0{2,2} [}] C1,2")
	means(t, "[a]]", "[a] [[.].]] C0,1")
	means(t, "(})|]", "[}] G1:0 [[.].]] A1,2")
}

// P9.1: all pieces of a branch stand ahead of what puts them together, from the first on.
func TestCat(t *testing.T) {
	means(t, "a", "[a]")
	means(t, "ab", "[a] [b] C0,1")
	means(t, "abc", "[a] [b] [c] C0,1 C3,2")
	means(t, "abcd", "[a] [b] [c] [d] C0,1 C4,2 C5,3")
	means(t, "a*bc+", "[a] R0{0,} [b] [c] R3{1,} C1,2 C5,4")
	means(t, "/&\n,", "[/] [&] [\\n] [,] C0,1 C4,2 C5,3")
}

// P9.1: branches stand one behind the other, and what puts all of them together behind them, from the first on; in a group likewise.
func TestBranches(t *testing.T) {
	means(t, "a|b", "[a] [b] A0,1")
	means(t, "a|b|c", "[a] [b] [c] A0,1 A3,2")
	means(t, "a|b|c|d", "[a] [b] [c] [d] A0,1 A4,2 A5,3")
	means(t, "a|a", "[a] [a] A0,1")
	means(t, "ab|c", "[a] [b] C0,1 [c] A2,3")
	means(t, "a|bc", "[a] [b] [c] C1,2 A0,3")
	means(t, "ab|cd|ef", "[a] [b] C0,1 [c] [d] C3,4 [e] [f] C6,7 A2,5 A9,8")
	means(t, "a*|b+", "[a] R0{0,} [b] R2{1,} A1,3")
	means(t, "(a|b)", "[a] [b] A0,1 G1:2")
	means(t, "(ab|c)", "[a] [b] C0,1 [c] A2,3 G1:4")
	means(t, "(a|b|c)", "[a] [b] [c] A0,1 A3,2 G1:4")
	means(t, "x(a|b)y", "[x] [a] [b] A1,2 G1:3 [y] C0,4 C6,5")
	means(t, "x(a|b)|y", "[x] [a] [b] A1,2 G1:3 C0,4 [y] A5,6")
	means(t, "(a)|b", "[a] G1:0 [b] A1,2")
	means(t, "a|(b)", "[a] [b] G1:1 A0,2")
	means(t, "(a|b)|(c|d)", "[a] [b] A0,1 G1:2 [c] [d] A4,5 G2:6 A3,7")
	means(t, "(a|(b|c)|d)", "[a] [b] [c] A1,2 G2:3 [d] A0,4 A6,5 G1:7")
	means(t, "(a|b)*|c", "[a] [b] A0,1 G1:2 R3{0,} [c] A4,5")
	means(t, ".|[|]", ". [|] A0,1")
	means(t, `a\|b`, "[a] [|] [b] C0,1 C3,2")
}

// P9.1: a ^ is the text's beginning, wherever it stands.
func TestCaret(t *testing.T) {
	means(t, "^", "^")
	means(t, "^a", "^ [a] C0,1")
	means(t, "a^b", "[a] ^ [b] C0,1 C3,2")
	means(t, "a^", "[a] ^ C0,1")
	means(t, "^^", "^ ^ C0,1")
	means(t, "a*^", "[a] R0{0,} ^ C1,2")
	means(t, "a|^", "[a] ^ A0,1")
	means(t, "^|a", "^ [a] A0,1")
	means(t, "^|^", "^ ^ A0,1")
	means(t, "a|b^c|d", "[a] [b] ^ [c] C1,2 C4,3 [d] A0,5 A7,6")
	means(t, "a|^b", "[a] ^ [b] C1,2 A0,3")
	means(t, "(^)", "^ G1:0")
	means(t, "(^a)", "^ [a] C0,1 G1:2")
	means(t, "(a^b)", "[a] ^ [b] C0,1 C3,2 G1:4")
	means(t, "(a^)", "[a] ^ C0,1 G1:2")
	means(t, "(a|^b)", "[a] ^ [b] C1,2 A0,3 G1:4")
	means(t, "(a)^", "[a] G1:0 ^ C1,2")
	means(t, "(^)*", "^ G1:0 R1{0,}")
	means(t, `\^`, "[[.^.]]")
	means(t, `\^*`, "[[.^.]] R0{0,}")
}

// P9.1: a $ is the text's end, wherever it stands.
func TestDollar(t *testing.T) {
	means(t, "$", "$")
	means(t, "a$", "[a] $ C0,1")
	means(t, "a$b", "[a] $ [b] C0,1 C3,2")
	means(t, "$a", "$ [a] C0,1")
	means(t, "$$", "$ $ C0,1")
	means(t, "^$", "^ $ C0,1")
	means(t, "$^", "$ ^ C0,1")
	means(t, "a+$", "[a] R0{1,} $ C1,2")
	means(t, "$|a", "$ [a] A0,1")
	means(t, "a|$", "[a] $ A0,1")
	means(t, "a$|b", "[a] $ C0,1 [b] A2,3")
	means(t, "$a|b$c", "$ [a] C0,1 [b] $ [c] C3,4 C6,5 A2,7")
	means(t, "($)", "$ G1:0")
	means(t, "(a$)", "[a] $ C0,1 G1:2")
	means(t, "($a)b", "$ [a] C0,1 G1:2 [b] C3,4")
	means(t, "(a|b$)", "[a] [b] $ C1,2 A0,3 G1:4")
	means(t, "$(a)", "$ [a] G1:1 C0,2")
	means(t, "($){2}", "$ G1:0 R1{2,2}")
	means(t, `\$`, "[$]")
	means(t, `$\$*`, "$ [$] R1{0,} C0,2")
}

// P9.1: . is any byte.
func TestAnyByte(t *testing.T) {
	means(t, ".", ".")
	means(t, "..*", ". . R1{0,} C0,2")
	means(t, `\.`, "[.]")
	if got := parse(`\.`).re.Nodes[0].Set; got != class.Of('.') {
		t.Error(got)
	}
	if got := class.Count(parse(".").re.Nodes[0].Set); got != 256 {
		t.Error(got)
	}
}

// repetitions are of every form, with what is told of them.
func repetitions() map[string]string {
	return map[string]string{"*": "{0,}", "+": "{1,}", "?": "{0,1}", "{2}": "{2,2}", "{2,}": "{2,}", "{2,3}": "{2,3}", "{0}": "{0,0}", "{0,}": "{0,}", "{0,0}": "{0,0}", "{255}": "{255,255}", "{0,255}": "{0,255}", "{255,}": "{255,}"}
}

// P9.1: each repetition is of any atom, and of a repetition.
func TestRepetitions(t *testing.T) {
	atoms := map[string]string{"a": "[a]", ".": ".", "[a-c]": "[a-c]", `\n`: `[\n]`, `\*`: "[*]", `\(`: "[(]", `\{`: "[{]", "}": "[}]", "]": "[[.].]]", ",": "[,]", "2": "[2]"}
	for r, times := range repetitions() {
		for a, node := range atoms {
			means(t, a+r, node+" R0"+times)
			means(t, "x"+a+r, "[x] "+node+" R1"+times+" C0,2")
			means(t, a+r+"x", node+" R0"+times+" [x] C1,2")
			means(t, "^"+a+r+"$", "^ "+node+" R1"+times+" $ C0,2 C4,3")
			means(t, "("+a+r+")", node+" R0"+times+" G1:1")
			means(t, "x|"+a+r+"|y", "[x] "+node+" R1"+times+" [y] A0,2 A4,3")
		}
		means(t, "(a)"+r, "[a] G1:0 R1"+times)
		means(t, "(a|b)"+r, "[a] [b] A0,1 G1:2 R3"+times)
		means(t, "(a"+r+")"+r, "[a] R0"+times+" G1:1 R2"+times)
		means(t, "(^)"+r+"($)"+r, "^ G1:0 R1"+times+" $ G2:3 R4"+times+" C2,5")
		means(t, `(a)\1`+r, "[a] G1:0 B1 R2"+times+" C1,3")
		for r2, times2 := range repetitions() {
			means(t, "a"+r+r2, "[a] R0"+times+" R1"+times2)
			means(t, "ab"+r+r2+"c", "[a] [b] R1"+times+" R2"+times2+" [c] C0,3 C5,4")
			means(t, "(a"+r+")"+r2+r, "[a] R0"+times+" G1:1 R2"+times2+" R3"+times)
		}
	}
	means(t, "a*+?{2}*", "[a] R0{0,} R1{1,} R2{0,1} R3{2,2} R4{0,}")
}

// P9.1: each form of an interval, with all numbers from 0 to 255 and beyond.
func TestIntervals(t *testing.T) {
	for m := range 300 {
		lo := strconv.Itoa(m)
		if m > 255 {
			failsAnywhere(t, "a{"+lo+"}", 1, api.ErrRepeat)
			failsAnywhere(t, "a{"+lo+",}", 1, api.ErrRepeat)
			failsAnywhere(t, "a{0,"+lo+"}", 1, api.ErrRepeat)
			continue
		}
		means(t, "a{"+lo+"}", "[a] R0{"+lo+","+lo+"}")
		means(t, "a{"+lo+",}", "[a] R0{"+lo+",}")
		for n := range 300 {
			hi := strconv.Itoa(n)
			if n < m || n > 255 {
				fails(t, "a{"+lo+","+hi+"}", 1, api.ErrRepeat)
			} else {
				means(t, "a{"+lo+","+hi+"}", "[a] R0{"+lo+","+hi+"}")
			}
		}
	}
	means(t, "a{003}", "[a] R0{3,3}")
	means(t, "a{"+strings.Repeat("0", 3000)+"7,"+strings.Repeat("0", 3000)+"9}", "[a] R0{7,9}")
}

// P9.1: a repetition behind no atom is ErrRepeat: at the beginning, behind a ( , a | , a ^ and a $ .
func TestRepetitionsOfNothing(t *testing.T) {
	for _, r := range []string{"*", "+", "?", "{", "{1", "{1}", "{1,}", "{1,2}", "{}", "{,}", "{a", "{300}", "{2,1}"} {
		for _, tail := range []string{"", "a", ")", "|", "*", "{2}", "[", `\`} {
			fails(t, r+tail, 0, api.ErrRepeat)
			fails(t, "^"+r+tail, 1, api.ErrRepeat)
			fails(t, "$"+r+tail, 1, api.ErrRepeat)
			fails(t, "("+r+tail, 1, api.ErrRepeat)
			fails(t, "(^"+r+tail+")", 2, api.ErrRepeat)
			fails(t, "($"+r+tail+")", 2, api.ErrRepeat)
			fails(t, "a|"+r+tail, 2, api.ErrRepeat)
			fails(t, "a|^"+r+tail, 3, api.ErrRepeat)
			fails(t, "(a|"+r+tail, 3, api.ErrRepeat)
			fails(t, "(a|b)|($|("+r+tail, 10, api.ErrRepeat)
			fails(t, "a^"+r+tail, 2, api.ErrRepeat)
			fails(t, "a$"+r+tail, 2, api.ErrRepeat)
			fails(t, "a*^"+r+tail, 3, api.ErrRepeat)
			fails(t, "(a)$"+r+tail, 4, api.ErrRepeat)
		}
	}
}

// P9.1: an interval that isn't as told is ErrRepeat at its { , behind atoms of any kind and behind repetitions.
func TestNoIntervals(t *testing.T) {
	for _, i := range []string{"{", "{}", "{,}", "{,1}", "{,3}", "{,", "{a}", "{1", "{1,", "{1,2", "{1)", "{1,)", "{1,2)", "{1{", "{1|2}", "{1,x}", "{|", "{)",
		"{1,2,}", "{1,2,3}", "{1,,2}", "{1,,}", "{1;2}", "{1.2}", "{1, 2}", "{1 ,2}", "{ 1}", "{1 }", "{1,2 }", "{+1}", "{-1}", "{1,-2}", "{1,+2}", "{0x1}", "{1e1}", "{1_0}", `{\1}`, `{1\}`, `{1,\}`, `{1,2\}`, "{1*}", "{*}", "{{1}}",
		"{2,1}", "{4,3}", "{255,254}", "{1,0}", "{256}", "{256,}", "{0,256}", "{256,256}", "{256,255}", "{1000}", "{4294967297}", "{18446744073709551617}", "{1,18446744073709551618}", "{" + strings.Repeat("9", 5000) + "}", "{1," + strings.Repeat("9", 5000) + "}",
		"{1\x00}", "{1\n}", "{\xff}", "{١}"} {
		failsAnywhere(t, "a"+i, 1, api.ErrRepeat)
		failsAnywhere(t, "a*"+i, 2, api.ErrRepeat)
		failsAnywhere(t, "a+"+i, 2, api.ErrRepeat)
		failsAnywhere(t, "a?"+i, 2, api.ErrRepeat)
		failsAnywhere(t, "a{1}"+i, 4, api.ErrRepeat)
		failsAnywhere(t, "(a)"+i, 3, api.ErrRepeat)
		failsAnywhere(t, "(a"+i+")", 2, api.ErrRepeat)
		failsAnywhere(t, "(b|a"+i+")", 4, api.ErrRepeat)
		failsAnywhere(t, "."+i, 1, api.ErrRepeat)
		failsAnywhere(t, "[a]"+i, 3, api.ErrRepeat)
		failsAnywhere(t, `\{`+i, 2, api.ErrRepeat)
	}
	fails(t, `(a)\1{2,1}`, 5, api.ErrRepeat)
}

// P9.1: groups are counted by their ( ; a group's node stands behind its alternatives.
func TestGroups(t *testing.T) {
	means(t, "(a)", "[a] G1:0")
	means(t, "(ab)", "[a] [b] C0,1 G1:2")
	means(t, "(a)b", "[a] G1:0 [b] C1,2")
	means(t, "a(b)", "[a] [b] G1:1 C0,2")
	means(t, "(a)(b)", "[a] G1:0 [b] G2:2 C1,3")
	means(t, "(a)(b)(c)", "[a] G1:0 [b] G2:2 [c] G3:4 C1,3 C6,5")
	means(t, "((a))", "[a] G2:0 G1:1")
	means(t, "((a)b)", "[a] G2:0 [b] C1,2 G1:3")
	means(t, "(a(b)c)", "[a] [b] G2:1 [c] C0,2 C4,3 G1:5")
	means(t, "((a)(b))(c)", "[a] G2:0 [b] G3:2 C1,3 G1:4 [c] G4:6 C5,7")
	means(t, "((a)|(b))|(c)", "[a] G2:0 [b] G3:2 A1,3 G1:4 [c] G4:6 A5,7")
	means(t, "([)])", "[)] G1:0")
	means(t, `(a\))`, "[a] [)] C0,1 G1:2")
	means(t, `\(a\)`, "[(] [a] [)] C0,1 C3,2")
	means(t, "[(]", "[(]")
}

// P9.1: nine groups are let, one behind the other or one in another, and a tenth ( is ErrGroups.
func TestNineGroups(t *testing.T) {
	inner, row := "[a]", ""
	for g := 9; g >= 1; g-- {
		inner += " G" + strconv.Itoa(g) + ":" + strconv.Itoa(9-g)
	}
	for g := range 9 {
		row += "[a] G" + strconv.Itoa(g+1) + ":" + strconv.Itoa(2*g) + " "
	}
	cats := []string{"C1,3"}
	for g := 2; g < 9; g++ {
		cats = append(cats, "C"+strconv.Itoa(16+g)+","+strconv.Itoa(2*g+1))
	}
	nested := strings.Repeat("(", 9) + "a" + strings.Repeat(")", 9)
	behind := strings.Repeat("(a)", 9)
	branches := strings.TrimSuffix(strings.Repeat("(a)|", 9), "|")
	means(t, nested, inner)
	means(t, behind, row+strings.Join(cats, " "))
	means(t, branches, row+strings.ReplaceAll(strings.Join(cats, " "), "C", "A"))
	for _, tail := range []string{"", ")", "a)", "a", "|", "*", `\`, "[", "{", "(", `\9`, strings.Repeat("(", 1000)} {
		fails(t, nested+"("+tail, len(nested), api.ErrGroups)
		fails(t, behind+"("+tail, len(behind), api.ErrGroups)
		fails(t, branches+"|("+tail, len(branches)+1, api.ErrGroups)
		fails(t, strings.Repeat("(", 10)+tail, 9, api.ErrGroups)
		fails(t, strings.Repeat("(a)", 8)+"(b("+tail, 26, api.ErrGroups)
	}
	means(t, nested+"[(]", inner+" [(] C9,10")
	means(t, nested+`\(`, inner+" [(] C9,10")
}

// P9.1: where a branch would begin and there is none, it is ErrEmpty: in an empty group, ahead of a | , behind one, between two, at the end of b.
func TestEmpty(t *testing.T) {
	fails(t, "|", 0, api.ErrEmpty)
	fails(t, "||", 0, api.ErrEmpty)
	fails(t, "|a", 0, api.ErrEmpty)
	fails(t, "|)", 0, api.ErrEmpty)
	fails(t, "|*", 0, api.ErrEmpty)
	fails(t, "|[", 0, api.ErrEmpty)
	failsAnywhere(t, "a|", 2, api.ErrEmpty)
	failsAnywhere(t, "a||", 2, api.ErrEmpty)
	failsAnywhere(t, "a||b", 2, api.ErrEmpty)
	failsAnywhere(t, "a|b|", 4, api.ErrEmpty)
	failsAnywhere(t, "a|b||c", 4, api.ErrEmpty)
	failsAnywhere(t, "^|", 2, api.ErrEmpty)
	failsAnywhere(t, "$|", 2, api.ErrEmpty)
	failsAnywhere(t, "a*|", 3, api.ErrEmpty)
	failsAnywhere(t, "(a)|", 4, api.ErrEmpty)
	failsAnywhere(t, "()", 1, api.ErrEmpty)
	failsAnywhere(t, "()a", 1, api.ErrEmpty)
	failsAnywhere(t, "()*", 1, api.ErrEmpty)
	failsAnywhere(t, "(|", 1, api.ErrEmpty)
	failsAnywhere(t, "(|)", 1, api.ErrEmpty)
	failsAnywhere(t, "(|a)", 1, api.ErrEmpty)
	failsAnywhere(t, "(a|)", 3, api.ErrEmpty)
	failsAnywhere(t, "(a||b)", 3, api.ErrEmpty)
	failsAnywhere(t, "(a|b|)", 5, api.ErrEmpty)
	failsAnywhere(t, "(a|", 3, api.ErrEmpty)
	failsAnywhere(t, "(", 1, api.ErrEmpty)
	failsAnywhere(t, "((", 2, api.ErrEmpty)
	failsAnywhere(t, "(a(", 3, api.ErrEmpty)
	failsAnywhere(t, "(a)(", 4, api.ErrEmpty)
	failsAnywhere(t, "(())", 2, api.ErrEmpty)
	failsAnywhere(t, "((a)|)", 5, api.ErrEmpty)
	failsAnywhere(t, "((a|b)|c|", 9, api.ErrEmpty)
}

// P9.1: what a group took that has ended ahead, in the same branch or in another.
func TestBack(t *testing.T) {
	means(t, `(a)\1`, "[a] G1:0 B1 C1,2")
	means(t, `(a)\1\1`, "[a] G1:0 B1 B1 C1,2 C4,3")
	means(t, `(a)|\1`, "[a] G1:0 B1 A1,2")
	means(t, `(a)(\1)`, "[a] G1:0 B1 G2:2 C1,3")
	means(t, `((a)\2)`, "[a] G2:0 B2 C1,2 G1:3")
	means(t, `((a)|\2)\1`, "[a] G2:0 B2 A1,2 G1:3 B1 C4,5")
	means(t, `((a))\2\1`, "[a] G2:0 G1:1 B2 B1 C2,3 C5,4")
	means(t, `(a)\10`, "[a] G1:0 B1 [0] C1,2 C4,3")
	means(t, `(a)[\1]\1`, `[a] G1:0 [1[.\.]] B1 C1,2 C4,3`)
	for g := 1; g <= 9; g++ {
		b := `\` + strconv.Itoa(g)
		ahead := strings.Repeat("(a)", g-1)
		fails(t, b, 0, api.ErrBack)
		fails(t, b+"*", 0, api.ErrBack)
		fails(t, ahead+b, len(ahead), api.ErrBack)
		fails(t, ahead+"("+b+")", len(ahead)+1, api.ErrBack)
		fails(t, ahead+"(a|"+b+")", len(ahead)+3, api.ErrBack)
		fails(t, ahead+"x|"+b+"|(a)", len(ahead)+2, api.ErrBack)
		if got := parse(ahead + "(a)" + b); !slices.Contains(got.re.Nodes, api.Node{Kind: api.NBack, Group: g}) {
			t.Errorf("%s: %v", b, got)
		}
		likeModel(t, ahead+"(a)"+b)
	}
	fails(t, `x|\9`, 2, api.ErrBack)
	fails(t, `(a\1)`, 2, api.ErrBack)
	fails(t, `((a)\1)`, 4, api.ErrBack)
	fails(t, `(a)\2`, 3, api.ErrBack)
	fails(t, `((a)\3)`, 4, api.ErrBack)
	fails(t, `(a)(b\2)`, 5, api.ErrBack)
	fails(t, `\(a\)\1`, 5, api.ErrBack)
}

// P9.1: a \ and each of the 256 bytes, at the text's beginning and elsewhere, and one that ends the text.
func TestEscapes(t *testing.T) {
	for c := range 256 {
		one := string([]byte{byte(c)})
		b, s := `\`+one, setText(byte(c))
		switch {
		case '1' <= c && c <= '9':
			continue
		case one == "n":
			s = setText('\n')
		case one == "0" || 'A' <= c && c <= 'Z' || 'a' <= c && c <= 'z':
			failsAnywhere(t, b, 0, api.ErrEscape)
			failsAnywhere(t, b+"*", 0, api.ErrEscape)
			failsAnywhere(t, "("+b+")", 1, api.ErrEscape)
			failsAnywhere(t, "x|"+b, 2, api.ErrEscape)
			continue
		}
		means(t, b, s)
		means(t, b+"*", s+" R0{0,}")
		means(t, "^"+b, "^ "+s+" C0,1")
		means(t, "("+b+")", s+" G1:0")
		means(t, "x"+b+"y", "[x] "+s+" [y] C0,1 C3,2")
		means(t, b+"|"+b, s+" "+s+" A0,1")
	}
	means(t, `\nn`, `[\n] [n] C0,1`)
	means(t, `\\n`, `[[.\.]] [n] C0,1`)
	means(t, `\(\)\{\}`, "[(] [)] [{] [}] C0,1 C4,2 C5,3")
	means(t, `\(a\)`, "[(] [a] [)] C0,1 C3,2")
	means(t, `a\{2\}`, "[a] [{] [2] [}] C0,1 C4,2 C5,3")
	means(t, `\)`, "[)]")
	failsAnywhere(t, `\`, 0, api.ErrEscape)
	failsAnywhere(t, `a\`, 1, api.ErrEscape)
	failsAnywhere(t, `\\\`, 2, api.ErrEscape)
	failsAnywhere(t, `(\`, 1, api.ErrEscape)
	failsAnywhere(t, `(a)\`, 3, api.ErrEscape)
	failsAnywhere(t, `a*\`, 2, api.ErrEscape)
	failsAnywhere(t, `a|\`, 2, api.ErrEscape)
	failsAnywhere(t, `\00`, 0, api.ErrEscape)
}

// P9.1: bracket expressions are read as chapter 7 tells; what is wrong in one is told at its [ .
func TestBrackets(t *testing.T) {
	means(t, "[a]", "[a]")
	means(t, "[a-c]d", "[a-c] [d] C0,1")
	means(t, "[]a]", "[[.].]a]")
	means(t, "[[:digit:]]*", "[0-9] R0{0,}")
	means(t, "[[.-.]]", "[[.-.]]")
	means(t, `[\n]`, `[\n]`)
	means(t, "[*][+][?]", "[*] [+] [?] C0,1 C3,2")
	means(t, "[|]|[|]", "[|] [|] A0,1")
	means(t, "[(]a[)]", "[(] [a] [)] C0,1 C3,2")
	means(t, "[{]{2}", "[{] R0{2,2}")
	means(t, "[$]$", "[$] $ C0,1")
	means(t, "([a]|[b])", "[a] [b] A0,1 G1:2")
	means(t, `\[a]`, "[[.[.]] [a] [[.].]] C0,1 C3,2")
	means(t, "^[^^]", "^ "+nodeText(api.Node{Kind: api.NSet, Set: class.Not(class.Of('^'))})+" C0,1")
	for b, e := range map[string]api.Errno{"[": api.ErrBracket, "[]": api.ErrBracket, "[a": api.ErrBracket, "[^": api.ErrBracket, "[^]": api.ErrBracket, `[\`: api.ErrBracket, `[\n`: api.ErrBracket, "[[:digit:]": api.ErrBracket, "[[:digit:": api.ErrBracket, "[[.a]": api.ErrBracket, "[|": api.ErrBracket, "[)": api.ErrBracket,
		"[[:x:]]": api.ErrClass, "[[::]]": api.ErrClass, "[[.ab.]]": api.ErrClass, "[[==]]": api.ErrClass, "[a[:x:]": api.ErrClass,
		"[b-a]": api.ErrRange, "[[:digit:]-z]": api.ErrRange, "[a-[:digit:]]": api.ErrRange, "[b-a": api.ErrRange} {
		failsAnywhere(t, b, 0, e)
		failsAnywhere(t, "("+b, 1, e)
		failsAnywhere(t, "(a|"+b, 3, e)
		failsAnywhere(t, "[a]"+b, 3, e)
		failsAnywhere(t, "(^"+b, 2, e)
	}
}

// P9.1: a ) that ends no group, and a group that isn't ended.
func TestParens(t *testing.T) {
	failsAnywhere(t, ")", 0, api.ErrParen)
	failsAnywhere(t, "a)", 1, api.ErrParen)
	failsAnywhere(t, ")(", 0, api.ErrParen)
	failsAnywhere(t, "a)(", 1, api.ErrParen)
	failsAnywhere(t, "(a))", 3, api.ErrParen)
	failsAnywhere(t, "(a(b)))c", 6, api.ErrParen)
	failsAnywhere(t, "a*)*", 2, api.ErrParen)
	failsAnywhere(t, "a$)", 2, api.ErrParen)
	failsAnywhere(t, "^)", 1, api.ErrParen)
	failsAnywhere(t, "a|)", 2, api.ErrParen)
	failsAnywhere(t, "a|b)|c", 3, api.ErrParen)
	failsAnywhere(t, `\(a)`, 3, api.ErrParen)
	failsAnywhere(t, "[(])", 3, api.ErrParen)
	failsAnywhere(t, "(a", 2, api.ErrParen)
	failsAnywhere(t, "(^", 2, api.ErrParen)
	failsAnywhere(t, "(a$", 3, api.ErrParen)
	failsAnywhere(t, "(a*", 3, api.ErrParen)
	failsAnywhere(t, "((a)", 4, api.ErrParen)
	failsAnywhere(t, "(a(b", 4, api.ErrParen)
	failsAnywhere(t, "(a)(b", 5, api.ErrParen)
	failsAnywhere(t, "(a|b", 4, api.ErrParen)
	failsAnywhere(t, "(a|b|(c)", 8, api.ErrParen)
	failsAnywhere(t, `(a\)`, 4, api.ErrParen)
	failsAnywhere(t, "(a[)]", 5, api.ErrParen)
	failsAnywhere(t, "(a{2}", 5, api.ErrParen)
}

// P9.1: pieces of many kinds beside each other, each with its repetitions.
func TestTogether(t *testing.T) {
	means(t, `^(ab*)\1{2,}$|c+`, "^ [a] [b] R2{0,} C1,3 G1:4 B1 R6{2,} $ C0,5 C9,7 C10,8 [c] R12{1,} A11,13")
	means(t, `(^|[0-2]{3}($))?.\n\2`, `^ [0-2] R1{3,3} $ G2:3 C2,4 A0,5 G1:6 R7{0,1} . [\n] B2 C8,9 C12,10 C13,11`)
}

// P9.1: what is wrong in more than one way is told by the first as it is read.
func TestFirstWrong(t *testing.T) {
	type fault struct {
		b  string
		at int
		e  api.Errno
	}
	l := []fault{
		{"a)", 1, api.ErrParen}, {`a\1`, 1, api.ErrBack}, {`a\q`, 1, api.ErrEscape}, {`a\0`, 1, api.ErrEscape},
		{"a|*", 2, api.ErrRepeat}, {"a{2,1}", 1, api.ErrRepeat}, {"^+", 1, api.ErrRepeat}, {"a[b-a]", 1, api.ErrRange}, {"a[[:x:]]", 1, api.ErrClass},
		{"a||", 2, api.ErrEmpty}, {"()", 1, api.ErrEmpty}, {"(a|)", 3, api.ErrEmpty}, {strings.Repeat("(", 10), 9, api.ErrGroups}, {`(a\1`, 2, api.ErrBack}, {"(a{", 2, api.ErrRepeat},
	}
	ends := []fault{{"a[", 1, api.ErrBracket}, {"a|", 2, api.ErrEmpty}, {"(a", 2, api.ErrParen}, {`a\`, 1, api.ErrEscape}}
	for _, one := range l {
		fails(t, one.b, one.at, one.e)
		for _, two := range append(ends, l...) {
			fails(t, two.b, two.at, two.e)
			fails(t, one.b+two.b, one.at, one.e)
			fails(t, one.b+")"+two.b, one.at, one.e)
			fails(t, one.b+"|"+two.b, one.at, one.e)
			fails(t, one.b+strings.Repeat("a", 2000)+two.b, one.at, one.e)
		}
	}
	fails(t, "a{1[", 1, api.ErrRepeat)
	fails(t, `a{1\`, 1, api.ErrRepeat)
	fails(t, "[a)", 0, api.ErrBracket)
	fails(t, "([)", 1, api.ErrBracket)
	fails(t, `(\`, 1, api.ErrEscape)
	// At one place two things lack: a branch, and the group's end.
	fails(t, "(", 1, api.ErrEmpty)
	fails(t, "(a|", 3, api.ErrEmpty)
	// At one place a branch would begin, and a repetition or a ) that ends no group stands there.
	fails(t, "a|)", 2, api.ErrParen)
	fails(t, "(*)", 1, api.ErrRepeat)
}

// fill is a text for which n nodes are put, n from 1 on, and which is a branch's first piece.
func fill(n int) string { return "a" + strings.Repeat("*", n-1) }

// has asks that the tree of b has so many nodes.
func has(t *testing.T, b string, nodes int) {
	t.Helper()
	if got := parse(b); got.e != api.OK || len(got.re.Nodes) != nodes || !tree.Right(got.re) {
		t.Errorf("%.99q: %d nodes, %v, want %d", b, len(got.re.Nodes), got.e, nodes)
	}
	likeModel(t, b)
}

// P9.1: 1,000 nodes are let; one more is ErrLong, at the place to which the text was read by then.
func TestNodes(t *testing.T) {
	has(t, fill(999), 999)
	has(t, fill(1000), 1000)
	for _, tail := range []string{"", "*", "b", `\`, ")", "[", "(", "{", "|", "|b", "{2,1}", strings.Repeat("*", 100000)} {
		fails(t, fill(1001)+tail, 1001, api.ErrLong)
	}
	has(t, strings.Repeat("a", 500), 999)
	has(t, strings.Repeat("a", 499)+"b+", 1000)
	has(t, "^"+strings.Repeat("a", 498)+"$", 999)
	has(t, strings.Repeat("a|", 499)+"a", 999)
	has(t, strings.Repeat("a|", 499)+"a?", 1000)
	has(t, "("+strings.Repeat("a|", 498)+"a)", 998)
	for _, n := range []int{501, 502, 999, 1000} {
		fails(t, strings.Repeat("a", n), n, api.ErrLong)
		fails(t, strings.Repeat("a|", n-1)+"a", 2*n-1, api.ErrLong)
		fails(t, strings.Repeat("a", n)+"|b", n, api.ErrLong)
		fails(t, strings.Repeat("a", n)+"||", n, api.ErrLong)
	}
	for _, n := range []int{1001, 1002, 65536, 1 << 20} {
		fails(t, strings.Repeat("a", n), 1001, api.ErrLong)
		fails(t, strings.Repeat("a|", n), 2001, api.ErrLong)
	}
	fails(t, "^"+strings.Repeat("a", 499)+"$", 501, api.ErrLong)
	fails(t, strings.Repeat("a", 1000)+")", 1000, api.ErrParen)
	fails(t, strings.Repeat("a", 1000)+`\q`, 1000, api.ErrEscape)
	fails(t, strings.Repeat("a", 1000)+`\n`, 1002, api.ErrLong)
	fails(t, strings.Repeat("a|", 999)+"a|", 2000, api.ErrEmpty)
	fails(t, strings.Repeat("a|", 999)+"a|*", 2000, api.ErrRepeat)
}

// P9.1: whichever piece is one node too many, the place behind it is told; a branch's node is told where the branch ends, that of all branches where the last of them ends.
func TestNodesOfEachKind(t *testing.T) {
	for _, w := range []string{"b", ".", "[b]", "[[:digit:]-]", `\n`, `\*`, `\(`, "$", "^"} {
		fails(t, fill(1000)+w, 1000+len(w), api.ErrLong)
		fails(t, fill(1000)+w+`\q`, 1000+len(w), api.ErrLong)
		has(t, fill(998)+w, 1000)
		// A second piece is the 1,000th node, and what puts both together is one too many.
		fails(t, fill(999)+w, 999+len(w), api.ErrLong)
		fails(t, fill(999)+w+"|", 999+len(w), api.ErrLong)
		fails(t, fill(999)+w+`\q`, 999+len(w), api.ErrEscape)
		fails(t, fill(999)+w+"b", 999+len(w)+1, api.ErrLong)
		// A second branch likewise.
		has(t, fill(998)+"|"+w, 1000)
		fails(t, fill(999)+"|"+w, 1000+len(w), api.ErrLong)
		fails(t, fill(999)+"|"+w+"|", 1001+len(w), api.ErrEmpty)
		fails(t, fill(999)+"|"+w+"|b", 1002+len(w), api.ErrLong)
		fails(t, fill(1000)+"|"+w, 1001+len(w), api.ErrLong)
	}
	for _, w := range []string{"*", "+", "?", "{2}", "{2,}", "{2,255}", "{002}"} {
		fails(t, fill(1000)+w, 1000+len(w), api.ErrLong)
		fails(t, fill(1000)+w+`\q`, 1000+len(w), api.ErrLong)
		has(t, fill(999)+w, 1000)
	}
	// What is wrong in itself is told ahead of that there is no room for it.
	for w, e := range map[string]api.Errno{`\`: api.ErrEscape, `\q`: api.ErrEscape, `\1`: api.ErrBack, ")": api.ErrParen, "{": api.ErrRepeat, "{2,1}": api.ErrRepeat, "[": api.ErrBracket, "[b-a]": api.ErrRange, "[[:x:]]": api.ErrClass} {
		fails(t, fill(1000)+w, 1000, e)
		if w[0] != '{' {
			fails(t, fill(1000)+"|"+w, 1001, e)
		}
	}
	fails(t, fill(1000)+"|", 1001, api.ErrEmpty)
	fails(t, fill(1000)+"||", 1001, api.ErrEmpty)
}

// P9.1: groups and what they took need nodes as well: what puts branches together is told at the group's ) , the group's node behind that.
func TestNodesOfGroups(t *testing.T) {
	has(t, "("+fill(999)+")", 1000)
	fails(t, "("+fill(1000)+")", 1002, api.ErrLong)
	fails(t, "("+fill(1000)+`)\q`, 1002, api.ErrLong)
	fails(t, "("+fill(1001)+")", 1002, api.ErrLong)
	fails(t, "("+fill(999)+"b)", 1001, api.ErrLong)
	has(t, "("+fill(997)+"b)", 1000)
	fails(t, "("+fill(998)+"b)", 1001, api.ErrLong)
	has(t, "("+fill(997)+"|b)", 1000)
	fails(t, "("+fill(998)+"|b)", 1002, api.ErrLong)
	fails(t, "("+fill(999)+"|b)", 1002, api.ErrLong)
	fails(t, "("+fill(1000)+"|b)", 1003, api.ErrLong)
	fails(t, "("+fill(998)+`)\1`, 1002, api.ErrLong)
	fails(t, "("+fill(999)+`)\1`, 1003, api.ErrLong)
	fails(t, fill(1000)+"(b)", 1002, api.ErrLong)
	fails(t, fill(999)+"(b)", 1002, api.ErrLong)
	fails(t, fill(998)+"(b)", 1001, api.ErrLong)
	has(t, fill(997)+"(b)", 1000)
	fails(t, fill(1000)+"(^)", 1002, api.ErrLong)
	fails(t, fill(1000)+"($)", 1002, api.ErrLong)
	fails(t, fill(1000)+`(\q)`, 1001, api.ErrEscape)
	fails(t, fill(1000)+"()", 1001, api.ErrEmpty)
	fails(t, fill(1000)+"(", 1001, api.ErrEmpty)
	fails(t, fill(1000)+"(*", 1001, api.ErrRepeat)
	fails(t, "("+fill(999)+"b", 1001, api.ErrParen)
	fails(t, "("+strings.Repeat("a", 600), 601, api.ErrParen)
	fails(t, "("+strings.Repeat("a", 600)+")", 601, api.ErrLong)
	fails(t, "("+strings.Repeat("a", 600)+"|", 601, api.ErrLong)
	fails(t, strings.Repeat("(a)", 9)+fill(1000)+"(", 27+983, api.ErrLong)
	fails(t, strings.Repeat("(a)", 9)+fill(982)+"(", 27+982, api.ErrGroups)
}

// P9.1: all short texts are read as the chapter's words tell.
func TestAllShortTexts(t *testing.T) {
	bytes := strings.Split(`\ ( ) { } [ ] * + ? | ^ $ . 1 0 , a n`, " ")
	eachText(bytes, 4, func(b string) { likeModel(t, b) })
	eachText([]string{`\`, "(", ")", "{", "1", "}", "*", "|", "^"}, 5, func(b string) { likeModel(t, b) })
}

// P9.1: so are all short rows of words.
func TestAllShortRows(t *testing.T) {
	words := []string{"(", ")", "|", `\1`, `\2`, "{2}", "{1,}", "*", "+", "?", "^", "$", "a", ".", "[b]", `\n`, `\*`, "{2,1}", `\q`, "[", `\`}
	eachText(words, 4, func(b string) { likeModel(t, b) })
	eachText([]string{"(", ")", "|", `\1`, "*", "^", "$", "a"}, 6, func(b string) { likeModel(t, b) })
}

// P9.1: so are short rows of words where a few nodes more are too many.
func TestAllShortRowsAtTheLimit(t *testing.T) {
	words := []string{"(", ")", "|", `\1`, "{2}", "*", "^", "$", "a", "[b]", `\q`}
	for _, ahead := range []string{"", "^", "(a)", "(", "a|", "(a|", "((a|b)|"} {
		for room := range 12 {
			full := ahead + fill(1000-room-len(ahead))
			eachText(words, 2, func(b string) { likeModel(t, full+b) })
		}
	}
	for n := 993; n < 998; n++ {
		eachText([]string{"(", ")", "|", "^", "a"}, 4, func(b string) { likeModel(t, "("+fill(n)+b) })
	}
}

// numbers are a row of numbers that is the same each time, and seems to have no order.
type numbers uint64

// Intn tells the next number, from 0 to n - 1.
func (x *numbers) Intn(n int) int {
	*x = *x*6364136223846793005 + 1442695040888963407
	return int(*x>>33) % n
}

// row tells a text of some words that is no error, and how many ( begin a group.
func (x *numbers) row(words int) (string, int) {
	var b strings.Builder
	groups, open := 0, 0
	piece, atom := false, false // does one stand ahead
	for range words {
		switch n := x.Intn(15); {
		case n < 2 && groups < 9:
			b.WriteString("(")
			groups, open, piece, atom = groups+1, open+1, false, false
		case n < 4 && open > 0 && piece:
			b.WriteString(")")
			open, atom = open-1, true
		case n < 6 && piece:
			b.WriteString("|")
			piece, atom = false, false
		case n < 9 && atom:
			b.WriteString([]string{"*", "+", "?", "{3}", "{0,}", "{1,255}"}[x.Intn(6)])
		case n < 10:
			b.WriteString([]string{"^", "$"}[x.Intn(2)])
			piece, atom = true, false
		default:
			b.WriteString([]string{"a", ".", "[^a(|]", `\n`, `\\`, "^x", "]", `\(`, "$a", "}"}[x.Intn(10)])
			piece, atom = true, true
		}
	}
	if !piece {
		b.WriteString("z")
	}
	b.WriteString(strings.Repeat(")", open))
	return b.String(), groups
}

// P9.2: what is answered is right, with as many groups as there are ( that begin one.
func TestRight(t *testing.T) {
	x := numbers(1)
	for n := range 5000 {
		b, groups := x.row(1 + n%150)
		got := parse(b)
		if got.e != api.OK || got.at != 0 || !tree.Right(got.re) || got.re.Groups != groups {
			t.Fatalf("%q: %v, want %d groups", b, got, groups)
		}
		likeModel(t, b)
	}
	for groups := range 9 {
		for _, b := range []string{strings.Repeat("(", groups) + "a" + strings.Repeat(")", groups), "b" + strings.Repeat("(a)", groups), `[(]\(` + strings.Repeat("(a)*", groups), "a" + strings.Repeat("|(a)", groups)} {
			if got := parse(b); got.e != api.OK || !tree.Right(got.re) || got.re.Groups != groups {
				t.Errorf("%q: %v, want %d groups", b, got, groups)
			}
		}
	}
}

// P9.2: all short texts that aren't wrong are right trees.
func TestAllShortRight(t *testing.T) {
	eachText([]string{"(", ")", "|", `\1`, "{2}", "*", "^", "$", "a"}, 5, func(b string) {
		got := parse(b)
		if got.e == api.OK && (!tree.Right(got.re) || got.re.Groups != strings.Count(b, "(") || got.at != 0) {
			t.Fatalf("%q: %v", b, got)
		}
	})
}

// likeBasic asks that b is as an extended one what the text basic is as a basic one.
func likeBasic(t *testing.T, b, basic string) {
	t.Helper()
	re, at, e := bre.Parse([]byte(basic))
	want := told{re, at, e}
	if got := parse(b); !same(got, want) {
		t.Fatalf("%.99q: %.999v, want %.999v", b, got, want)
	}
}

// P9.2: a text without bytes that mean something in either kind is the same tree as a basic one.
func TestPlainTextsAsBasic(t *testing.T) {
	var plain []string
	for c := range 256 {
		if one := string([]byte{byte(c)}); !strings.Contains(`\[.*^$+?{()|`, one) {
			plain = append(plain, one)
			likeBasic(t, one, one)
		}
	}
	eachText(plain, 2, func(b string) { likeBasic(t, b, b) })
	eachText([]string{"a", "b", "1", ",", "}", "]", "-", "/", "\n", "\x00", "\xff"}, 4, func(b string) { likeBasic(t, b, b) })
	for n := range 1100 {
		b := strings.Repeat("ab}", n)[:n]
		likeBasic(t, b, b)
	}
	all := strings.Join(plain, "")
	likeBasic(t, all+all, all+all)
}

// P9.1: what both kinds have is the same in both, however it is written: rows of words as a basic one has them, and as an extended one.
func TestRowsAsBasic(t *testing.T) {
	both := [][2]string{{"(", `\(`}, {")", `\)`}, {"{2}", `\{2\}`}, {"{0,3}", `\{0,3\}`}, {"*", "*"}, {"a", "a"}, {".", "."}, {"[b-d]", "[b-d]"}, {`\1`, `\1`}, {`\n`, `\n`}, {`\.`, `\.`}, {`\(`, "("}, {`\)`, ")"}, {`\{`, "{"}, {`\+`, "+"}, {`\|`, "|"}, {"}", "}"}}
	x := numbers(7)
	right := 0
	for range 200000 {
		var b, basic strings.Builder
		for range 1 + x.Intn(9) {
			w := both[x.Intn(len(both))]
			b.WriteString(w[0])
			basic.WriteString(w[1])
		}
		// An empty group and a * at a branch's beginning are no errors in a basic one.
		if parse(b.String()).e != api.OK {
			continue
		}
		right++
		likeBasic(t, b.String(), basic.String())
		likeBasic(t, "^"+b.String()+"$", "^"+basic.String()+"$")
	}
	if right < 10000 {
		t.Error(right)
	}
}

// R3: beside an error there are no nodes and no groups; beside OK the place is 0.
func TestBesideErrors(t *testing.T) {
	for _, b := range []string{"(a)b)", "(a)(a)(", `abc\q`, `(a)\2`, fill(1001), "(a)[", "(a)|", "(a)^*", "(a", strings.Repeat("(", 10)} {
		if got := parse(b); got.e == api.OK || got.re.Groups != 0 || len(got.re.Nodes) != 0 {
			t.Errorf("%q: %v, %v", b, got, got.re)
		}
	}
}

// R4: what is handed in stays, and what lies behind its length isn't read; R6: the same again is answered the same.
func TestKeepsOff(t *testing.T) {
	for _, whole := range []string{`(a)\1`, "^a|$)", "a{12,34}*", "[[:digit:]]]", `\n\q`, "a$|b$", "((^$)|x)?", "a||b", "a+?{1}"} {
		b := []byte(whole)
		for n := range len(b) + 1 {
			want := modelOf(whole[:n])
			for range 3 {
				re, at, e := ere.Parse(b[:n])
				if got := (told{re, at, e}); !same(got, want) {
					t.Errorf("%q, %d bytes of it: %v, want %v", whole, n, got, want)
				}
			}
		}
		if string(b) != whole {
			t.Errorf("%q became %q", whole, b)
		}
	}
}

// R4: what is answered may be written over.
func TestTreesAreNew(t *testing.T) {
	b := []byte(`(a*|c)[b-d]\1$`)
	want := told{re: api.Re{Nodes: slices.Clone(parse(string(b)).re.Nodes), Groups: 1}}
	one, _, _ := ere.Parse(b)
	for i := range one.Nodes {
		one.Nodes[i] = api.Node{Kind: -1, A: -1, B: -1, Group: -1}
	}
	_ = append(one.Nodes[:1], api.Node{}, api.Node{})
	if re, at, e := ere.Parse(b); !same(told{re, at, e}, want) {
		t.Errorf("%v, then %v", want, told{re, at, e})
	}
	two, _, _ := ere.Parse(b)
	for i := range b {
		b[i] = 'z'
	}
	if !same(told{re: two}, want) {
		t.Errorf("%v, then %v", want, told{re: two})
	}
}
