package bre_test

import (
	"slices"
	"strconv"
	"strings"
	"testing"

	"palinode/api"
	"palinode/bre"
	"palinode/class"
	"palinode/tree"
)

func reOf(groups int, nodes ...api.Node) api.Re { return api.Re{Nodes: nodes, Groups: groups} }

func empty() api.Node            { return api.Node{Kind: api.NEmpty} }
func set(bytes string) api.Node  { return api.Node{Kind: api.NSet, Set: class.Of([]byte(bytes)...)} }
func anyByte() api.Node          { return api.Node{Kind: api.NSet, Set: class.Not(class.Of())} }
func cat(a, b int) api.Node      { return api.Node{Kind: api.NCat, A: a, B: b} }
func rep(a, lo, hi int) api.Node { return api.Node{Kind: api.NRep, A: a, Lo: lo, Hi: hi} }
func star(a int) api.Node        { return rep(a, 0, api.Unbounded) }
func group(g, a int) api.Node    { return api.Node{Kind: api.NGroup, A: a, Group: g} }
func back(g int) api.Node        { return api.Node{Kind: api.NBack, Group: g} }
func bol() api.Node              { return api.Node{Kind: api.NBol} }
func eol() api.Node              { return api.Node{Kind: api.NEol} }

// answers asks that Parse tells want of b; and that the model of the tests says so too.
func answers(t *testing.T, b string, want told) {
	t.Helper()
	if got := parse(b); !same(got, want) {
		t.Errorf("%.99q: %.999v, want %.999v", b, got, want)
	}
	if got := modelOf(b); !same(got, want) {
		t.Errorf("%.99q: by the model: %.999v, want %.999v", b, got, want)
	}
}

// means asks that the tree of b has these nodes, and so many groups.
func means(t *testing.T, b string, groups int, nodes ...api.Node) {
	t.Helper()
	answers(t, b, told{re: reOf(groups, nodes...)})
}

// fails asks that b is wrong by e at the place at.
func fails(t *testing.T, b string, at int, e api.Errno) {
	t.Helper()
	answers(t, b, wrong(at, e))
}

// failsAnywhere asks that b is wrong by e at its place at, at the text's beginning, and behind what ends with an atom, too.
func failsAnywhere(t *testing.T, b string, at int, e api.Errno) {
	t.Helper()
	for _, ahead := range []string{"", "x", "x*", "^x", `\(x\)`, "[x]", "$", `\n`, `x\{2,3\}`, strings.Repeat("x", 300)} {
		fails(t, ahead+b, len(ahead)+at, e)
	}
}

// eachText hands over all texts of up to most of these words.
func eachText(words []string, most int, do func(string)) {
	var grow func(string, int)
	grow = func(b string, left int) {
		do(b)
		if left == 0 {
			return
		}
		for _, w := range words {
			grow(b+w, left-1)
		}
	}
	grow("", most)
}

// P8.1: no byte at all is a branch without pieces.
func TestNoByte(t *testing.T) {
	means(t, "", 0, empty())
	for _, b := range [][]byte{nil, {}} {
		if re, at, e := bre.Parse(b); !tree.Same(re, reOf(0, empty())) || at != 0 || e != api.OK {
			t.Error(re, at, e)
		}
	}
}

// P8.1: bytes that mean nothing else are themselves, each of the 256, alone and behind each other.
func TestBytes(t *testing.T) {
	for c := range 256 {
		one := string([]byte{byte(c)})
		if !strings.Contains(`\[.^$`, one) {
			means(t, one, 0, set(one))
		}
		if !strings.Contains(`\[.$*`, one) {
			means(t, "x"+one+"y", 0, set("x"), set(one), set("y"), cat(0, 1), cat(3, 2))
		}
	}
}

// P8.1: all pieces stand ahead of what puts them together, from the first on.
func TestCat(t *testing.T) {
	means(t, "a", 0, set("a"))
	means(t, "ab", 0, set("a"), set("b"), cat(0, 1))
	means(t, "abc", 0, set("a"), set("b"), set("c"), cat(0, 1), cat(3, 2))
	means(t, "abcd", 0, set("a"), set("b"), set("c"), set("d"), cat(0, 1), cat(4, 2), cat(5, 3))
	means(t, "aa", 0, set("a"), set("a"), cat(0, 1))
	means(t, "a*bc*", 0, set("a"), star(0), set("b"), set("c"), star(3), cat(1, 2), cat(5, 4))
	means(t, "x{1}+?|()", 0, set("x"), set("{"), set("1"), set("}"), set("+"), set("?"), set("|"), set("("), set(")"),
		cat(0, 1), cat(9, 2), cat(10, 3), cat(11, 4), cat(12, 5), cat(13, 6), cat(14, 7), cat(15, 8))
	means(t, "]/&-\n", 0, set("]"), set("/"), set("&"), set("-"), set("\n"), cat(0, 1), cat(5, 2), cat(6, 3), cat(7, 4))
}

// P8.1: a ^ at a branch's beginning, the whole's or a group's, is the text's beginning, and the byte itself elsewhere.
func TestCaret(t *testing.T) {
	means(t, "^", 0, bol())
	means(t, "^a", 0, bol(), set("a"), cat(0, 1))
	means(t, "^^", 0, bol(), set("^"), cat(0, 1))
	means(t, "^^*", 0, bol(), set("^"), star(1), cat(0, 2))
	means(t, "^^^", 0, bol(), set("^"), set("^"), cat(0, 1), cat(3, 2))
	means(t, "a^", 0, set("a"), set("^"), cat(0, 1))
	means(t, "a^b", 0, set("a"), set("^"), set("b"), cat(0, 1), cat(3, 2))
	means(t, "a*^", 0, set("a"), star(0), set("^"), cat(1, 2))
	means(t, "a^*", 0, set("a"), set("^"), star(1), cat(0, 2))
	means(t, `a^\{2\}`, 0, set("a"), set("^"), rep(1, 2, 2), cat(0, 2))
	means(t, "*^", 0, set("*"), set("^"), cat(0, 1))
	means(t, "$^", 0, set("$"), set("^"), cat(0, 1))
	means(t, `\^`, 0, set("^"))
	means(t, `\^*`, 0, set("^"), star(0))
	means(t, `\(^\)`, 1, bol(), group(1, 0))
	means(t, `\(^a\)`, 1, bol(), set("a"), cat(0, 1), group(1, 2))
	means(t, `\(a^\)`, 1, set("a"), set("^"), cat(0, 1), group(1, 2))
	means(t, `a\(^b\)`, 1, set("a"), bol(), set("b"), cat(1, 2), group(1, 3), cat(0, 4))
	means(t, `^\(^\)`, 1, bol(), bol(), group(1, 1), cat(0, 2))
	means(t, `\(^\)^`, 1, bol(), group(1, 0), set("^"), cat(1, 2))
	means(t, `\(\(^\)^\)`, 2, bol(), group(2, 0), set("^"), cat(1, 2), group(1, 3))
	means(t, `\(^\)*`, 1, bol(), group(1, 0), star(1))
}

// P8.1: a * at a branch's beginning, or behind the ^ there, is the byte itself; elsewhere it is a repetition, behind another too.
func TestStar(t *testing.T) {
	means(t, "*", 0, set("*"))
	means(t, "*a", 0, set("*"), set("a"), cat(0, 1))
	means(t, "**", 0, set("*"), star(0))
	means(t, "***", 0, set("*"), star(0), star(1))
	means(t, "^*", 0, bol(), set("*"), cat(0, 1))
	means(t, "^**", 0, bol(), set("*"), star(1), cat(0, 2))
	means(t, "^*a", 0, bol(), set("*"), set("a"), cat(0, 1), cat(3, 2))
	means(t, `*\{2\}`, 0, set("*"), rep(0, 2, 2))
	means(t, `^*\{2\}`, 0, bol(), set("*"), rep(1, 2, 2), cat(0, 2))
	means(t, "a*", 0, set("a"), star(0))
	means(t, "a**", 0, set("a"), star(0), star(1))
	means(t, "ab*", 0, set("a"), set("b"), star(1), cat(0, 2))
	means(t, "a*b", 0, set("a"), star(0), set("b"), cat(1, 2))
	means(t, "^a*", 0, bol(), set("a"), star(1), cat(0, 2))
	means(t, ".*", 0, anyByte(), star(0))
	means(t, "[ab]*", 0, set("ab"), star(0))
	means(t, `\n*`, 0, set("\n"), star(0))
	means(t, `\**`, 0, set("*"), star(0))
	means(t, `a\*`, 0, set("a"), set("*"), cat(0, 1))
	means(t, `\(*\)`, 1, set("*"), group(1, 0))
	means(t, `\(**\)`, 1, set("*"), star(0), group(1, 1))
	means(t, `\(^*\)`, 1, bol(), set("*"), cat(0, 1), group(1, 2))
	means(t, `\(^**\)`, 1, bol(), set("*"), star(1), cat(0, 2), group(1, 3))
	means(t, `a\(*\)`, 1, set("a"), set("*"), group(1, 1), cat(0, 2))
	means(t, `\(a\)*`, 1, set("a"), group(1, 0), star(1))
	means(t, `\(a*\)*`, 1, set("a"), star(0), group(1, 1), star(2))
	means(t, `\(\)*`, 1, empty(), group(1, 0), star(1))
	means(t, `\(a\)\1*`, 1, set("a"), group(1, 0), back(1), star(2), cat(1, 3))
}

// P8.1: a $ where the text ends, or ahead of \) , is the text's end, and the byte itself elsewhere.
func TestDollar(t *testing.T) {
	means(t, "$", 0, eol())
	means(t, "a$", 0, set("a"), eol(), cat(0, 1))
	means(t, "^$", 0, bol(), eol(), cat(0, 1))
	means(t, "a*$", 0, set("a"), star(0), eol(), cat(1, 2))
	means(t, "$$", 0, set("$"), eol(), cat(0, 1))
	means(t, "$a", 0, set("$"), set("a"), cat(0, 1))
	means(t, "a$b", 0, set("a"), set("$"), set("b"), cat(0, 1), cat(3, 2))
	means(t, "^$a", 0, bol(), set("$"), set("a"), cat(0, 1), cat(3, 2))
	means(t, "$*", 0, set("$"), star(0))
	means(t, "$*$", 0, set("$"), star(0), eol(), cat(1, 2))
	means(t, `$\{2\}`, 0, set("$"), rep(0, 2, 2))
	means(t, `$\n`, 0, set("$"), set("\n"), cat(0, 1))
	means(t, `$)`, 0, set("$"), set(")"), cat(0, 1))
	means(t, `$\\)`, 0, set("$"), set(`\`), set(")"), cat(0, 1), cat(3, 2))
	means(t, `\$`, 0, set("$"))
	means(t, `\$\$`, 0, set("$"), set("$"), cat(0, 1))
	means(t, `\($\)`, 1, eol(), group(1, 0))
	means(t, `\(a$\)`, 1, set("a"), eol(), cat(0, 1), group(1, 2))
	means(t, `\($a\)`, 1, set("$"), set("a"), cat(0, 1), group(1, 2))
	means(t, `\(a$\)b`, 1, set("a"), eol(), cat(0, 1), group(1, 2), set("b"), cat(3, 4))
	means(t, `\(a$\)*$`, 1, set("a"), eol(), cat(0, 1), group(1, 2), star(3), eol(), cat(4, 5))
	means(t, `$\(a\)`, 1, set("$"), set("a"), group(1, 1), cat(0, 2))
	means(t, `\($\(a\)\)`, 2, set("$"), set("a"), group(2, 1), cat(0, 2), group(1, 3))
	means(t, `\(\($\)$\)$`, 2, eol(), group(2, 0), eol(), cat(1, 2), group(1, 3), eol(), cat(4, 5))
	means(t, `\(^$\)`, 1, bol(), eol(), cat(0, 1), group(1, 2))
	fails(t, `$\)`, 1, api.ErrParen)
	fails(t, `\($`, 3, api.ErrParen)
	fails(t, `$\`, 1, api.ErrEscape)
}

// P8.1: . is any byte.
func TestAnyByte(t *testing.T) {
	means(t, ".", 0, anyByte())
	means(t, "..", 0, anyByte(), anyByte(), cat(0, 1))
	means(t, `\.`, 0, set("."))
	means(t, `^.$`, 0, bol(), anyByte(), eol(), cat(0, 1), cat(3, 2))
	if n := class.Count(parse(".").re.Nodes[0].Set); n != 256 {
		t.Error(n)
	}
}

// P8.1: each form of an interval, with all numbers from 0 to 255 and beyond.
func TestIntervals(t *testing.T) {
	for m := range 300 {
		lo := strconv.Itoa(m)
		if m > 255 {
			failsAnywhere(t, `a\{`+lo+`\}`, 1, api.ErrRepeat)
			failsAnywhere(t, `a\{`+lo+`,\}`, 1, api.ErrRepeat)
			failsAnywhere(t, `a\{0,`+lo+`\}`, 1, api.ErrRepeat)
			continue
		}
		means(t, `a\{`+lo+`\}`, 0, set("a"), rep(0, m, m))
		means(t, `a\{`+lo+`,\}`, 0, set("a"), rep(0, m, api.Unbounded))
		for n := range 300 {
			b := `a\{` + lo + "," + strconv.Itoa(n) + `\}`
			if n < m || n > 255 {
				fails(t, b, 1, api.ErrRepeat)
			} else {
				means(t, b, 0, set("a"), rep(0, m, n))
			}
		}
	}
	means(t, `a\{003\}`, 0, set("a"), rep(0, 3, 3))
	means(t, `a\{`+strings.Repeat("0", 3000)+`7,`+strings.Repeat("0", 3000)+`9\}`, 0, set("a"), rep(0, 7, 9))
}

// P8.1: an interval is of any atom, and a repetition of repetitions.
func TestIntervalsOfAnything(t *testing.T) {
	for atom, n := range map[string]api.Node{"a": set("a"), "*": set("*"), ".": anyByte(), "[a-c]": set("abc"), `\n`: set("\n"), `\$`: set("$"), `\}`: set("}"), "{": set("{"), "}": set("}"), "$": set("$"), "]": set("]")} {
		means(t, atom+`\{2,3\}`, 0, n, rep(0, 2, 3))
		means(t, atom+`\{2,3\}x`, 0, n, rep(0, 2, 3), set("x"), cat(1, 2))
	}
	means(t, `a\{2\}\{3\}`, 0, set("a"), rep(0, 2, 2), rep(1, 3, 3))
	means(t, `a\{2\}*`, 0, set("a"), rep(0, 2, 2), star(1))
	means(t, `a*\{2\}`, 0, set("a"), star(0), rep(1, 2, 2))
	means(t, `a\{0\}\{0,\}\{0,0\}*\{255\}`, 0, set("a"), rep(0, 0, 0), rep(1, 0, api.Unbounded), rep(2, 0, 0), star(3), rep(4, 255, 255))
	means(t, `^a\{1,2\}$`, 0, bol(), set("a"), rep(1, 1, 2), eol(), cat(0, 2), cat(4, 3))
	means(t, `\(a\)\{2\}`, 1, set("a"), group(1, 0), rep(1, 2, 2))
	means(t, `\(a\{1\}b\)\{2\}`, 1, set("a"), rep(0, 1, 1), set("b"), cat(1, 2), group(1, 3), rep(4, 2, 2))
	means(t, `\(\)\1\{4,\}`, 1, empty(), group(1, 0), back(1), rep(2, 4, api.Unbounded), cat(1, 3))
	means(t, `a{2}`, 0, set("a"), set("{"), set("2"), set("}"), cat(0, 1), cat(4, 2), cat(5, 3))
	means(t, `a{2\}`, 0, set("a"), set("{"), set("2"), set("}"), cat(0, 1), cat(4, 2), cat(5, 3))
}

// P8.1: an interval at a branch's beginning, or behind its ^ , is ErrRepeat, whatever it says.
func TestIntervalsOfNothing(t *testing.T) {
	for _, i := range []string{`\{`, `\{1`, `\{1\}`, `\{1,\}`, `\{1,2\}`, `\{\}`, `\{a`, `\{1\}*`, `\{1\}\{2\}`, `\{300\}`} {
		fails(t, i, 0, api.ErrRepeat)
		fails(t, "^"+i, 1, api.ErrRepeat)
		fails(t, `\(`+i, 2, api.ErrRepeat)
		fails(t, `\(^`+i, 3, api.ErrRepeat)
		fails(t, `\(`+i+`\)`, 2, api.ErrRepeat)
		fails(t, `\(^`+i+`\)`, 3, api.ErrRepeat)
		failsAnywhere(t, `\(`+i+`\)`, 2, api.ErrRepeat)
		failsAnywhere(t, `\(^`+i+`\)`, 3, api.ErrRepeat)
		failsAnywhere(t, `\(\(a\)b\(^`+i+`\)\)`, 11, api.ErrRepeat)
	}
}

// P8.1: an interval that isn't as told is ErrRepeat at its \{ , behind atoms of any kind and behind repetitions.
func TestNoIntervals(t *testing.T) {
	for _, i := range []string{`\{`, `\{\`, `\{\}`, `\{}`, `\{,\}`, `\{,1\}`, `\{,`, `\{a\}`, `\{1`, `\{1,`, `\{1,2`, `\{1\`, `\{1,\`, `\{1,2\`, `\{1}`, `\{1,}`, `\{1,2}`, `\{1\)`, `\{1,\)`, `\{1,2\)`, `\{1\{`,
		`\{1,2,\}`, `\{1,2,3\}`, `\{1,,2\}`, `\{1,,\}`, `\{1;2\}`, `\{1.2\}`, `\{1, 2\}`, `\{1 ,2\}`, `\{ 1\}`, `\{1 \}`, `\{1,2 \}`, `\{+1\}`, `\{-1\}`, `\{1,-2\}`, `\{1,+2\}`, `\{0x1\}`, `\{1e1\}`, `\{1_0\}`, `\{\1\}`, `\{1*\}`, `\{*\}`,
		`\{2,1\}`, `\{255,254\}`, `\{1,0\}`, `\{256\}`, `\{256,\}`, `\{0,256\}`, `\{256,256\}`, `\{256,255\}`, `\{1000\}`, `\{4294967297\}`, `\{18446744073709551617\}`, `\{1,18446744073709551618\}`, `\{` + strings.Repeat("9", 5000) + `\}`, `\{1,` + strings.Repeat("9", 5000) + `\}`,
		"\\{1\x00\\}", "\\{1\n\\}", "\\{\xff\\}", `\{١\}`} {
		failsAnywhere(t, "a"+i, 1, api.ErrRepeat)
		failsAnywhere(t, "a*"+i, 2, api.ErrRepeat)
		failsAnywhere(t, `a\{1\}`+i, 6, api.ErrRepeat)
		failsAnywhere(t, `\(a\)`+i, 5, api.ErrRepeat)
		failsAnywhere(t, `\(a`+i+`\)`, 3, api.ErrRepeat)
		fails(t, "*"+i, 1, api.ErrRepeat)
		fails(t, "^*"+i, 2, api.ErrRepeat)
	}
}

// P8.1: groups are counted by their \( ; a group's node stands behind its branch.
func TestGroups(t *testing.T) {
	means(t, `\(\)`, 1, empty(), group(1, 0))
	means(t, `\(a\)`, 1, set("a"), group(1, 0))
	means(t, `\(ab\)`, 1, set("a"), set("b"), cat(0, 1), group(1, 2))
	means(t, `\(a\)b`, 1, set("a"), group(1, 0), set("b"), cat(1, 2))
	means(t, `a\(b\)`, 1, set("a"), set("b"), group(1, 1), cat(0, 2))
	means(t, `\(a\)\(b\)`, 2, set("a"), group(1, 0), set("b"), group(2, 2), cat(1, 3))
	means(t, `\(\)\(\)`, 2, empty(), group(1, 0), empty(), group(2, 2), cat(1, 3))
	means(t, `\(\(\)\)`, 2, empty(), group(2, 0), group(1, 1))
	means(t, `\(\(a\)\)`, 2, set("a"), group(2, 0), group(1, 1))
	means(t, `\(a\(b\)c\)`, 2, set("a"), set("b"), group(2, 1), set("c"), cat(0, 2), cat(4, 3), group(1, 5))
	means(t, `\(\(a\)\(b\)\)\(c\)`, 4, set("a"), group(2, 0), set("b"), group(3, 2), cat(1, 3), group(1, 4), set("c"), group(4, 6), cat(5, 7))
	means(t, `(a)`, 0, set("("), set("a"), set(")"), cat(0, 1), cat(3, 2))
	means(t, `\(a)\)`, 1, set("a"), set(")"), cat(0, 1), group(1, 2))
	means(t, `\(a\\)\)`, 1, set("a"), set(`\`), set(")"), cat(0, 1), cat(3, 2), group(1, 4))
	means(t, `\([\)]\)`, 1, set(`\)`), group(1, 0))
	means(t, `[\(]`, 0, set(`\(`))
	means(t, `\\(`, 0, set(`\`), set("("), cat(0, 1))
}

// P8.1: nine groups are let, one behind the other or one in another, and a tenth \( is ErrGroups.
func TestNineGroups(t *testing.T) {
	const begin, end = `\(`, `\)`
	var inner, row []api.Node
	inner = append(inner, empty())
	for g := 9; g >= 1; g-- {
		inner = append(inner, group(g, len(inner)-1))
	}
	for g := 1; g <= 9; g++ {
		row = append(row, empty(), group(g, 2*g-2))
	}
	for g := 2; g <= 9; g++ {
		all := 1
		if g > 2 {
			all = len(row) - 1
		}
		row = append(row, cat(all, 2*g-1))
	}
	nested := strings.Repeat(begin, 9) + strings.Repeat(end, 9)
	behind := strings.Repeat(begin+end, 9)
	means(t, nested, 9, inner...)
	means(t, behind, 9, row...)
	for _, tail := range []string{"", ")", end, "a", `\`, "[", `\{`, begin, `\9`, strings.Repeat(begin, 1000)} {
		fails(t, nested+begin+tail, 36, api.ErrGroups)
		fails(t, behind+begin+tail, 36, api.ErrGroups)
		fails(t, behind+"x"+begin+tail, 37, api.ErrGroups)
		fails(t, strings.Repeat(begin, 10)+tail, 18, api.ErrGroups)
		fails(t, strings.Repeat(begin, 5)+strings.Repeat(end, 5)+strings.Repeat(begin, 5)+tail, 28, api.ErrGroups)
	}
}

// P8.1: a \ and a digit is what that group took.
func TestBack(t *testing.T) {
	means(t, `\(a\)\1`, 1, set("a"), group(1, 0), back(1), cat(1, 2))
	means(t, `\(a\)\1\1`, 1, set("a"), group(1, 0), back(1), back(1), cat(1, 2), cat(4, 3))
	means(t, `\(a\)b\1`, 1, set("a"), group(1, 0), set("b"), back(1), cat(1, 2), cat(4, 3))
	means(t, `\(a\)\11`, 1, set("a"), group(1, 0), back(1), set("1"), cat(1, 2), cat(4, 3))
	means(t, `\(a\)\10`, 1, set("a"), group(1, 0), back(1), set("0"), cat(1, 2), cat(4, 3))
	means(t, `\(a\)\(\1\)`, 2, set("a"), group(1, 0), back(1), group(2, 2), cat(1, 3))
	means(t, `\(\(a\)\2\)`, 2, set("a"), group(2, 0), back(2), cat(1, 2), group(1, 3))
	means(t, `\(\(a\)\)\2\1`, 2, set("a"), group(2, 0), group(1, 1), back(2), back(1), cat(2, 3), cat(5, 4))
	means(t, `\(a\)\\1`, 1, set("a"), group(1, 0), set(`\`), set("1"), cat(1, 2), cat(4, 3))
	for g := 1; g <= 9; g++ {
		l := parse(strings.Repeat(`\(\)`, 9) + `\` + strconv.Itoa(g)).re.Nodes
		if len(l) != 28 || l[18] != back(g) {
			t.Error(g, told{re: reOf(9, l...)})
		}
	}
}

// P8.1: a \ and a digit whose group hasn't ended, or isn't there, is ErrBack at the \ .
func TestNoBack(t *testing.T) {
	for g := 1; g <= 9; g++ {
		b := `\` + strconv.Itoa(g)
		fails(t, b, 0, api.ErrBack)
		fails(t, "^"+b, 1, api.ErrBack)
		fails(t, "ab"+b+"c", 2, api.ErrBack)
		fails(t, b+`\(a\)`, 0, api.ErrBack)
		fails(t, strings.Repeat(`\(`, g)+b, 2*g, api.ErrBack)
		fails(t, strings.Repeat(`\(`, g)+b+strings.Repeat(`\)`, g), 2*g, api.ErrBack)
		fails(t, strings.Repeat(`\(\)`, g-1)+b, 4*(g-1), api.ErrBack)
		fails(t, strings.Repeat(`\(\)`, g-1)+`\(`+b+`\)`, 4*g-2, api.ErrBack)
	}
	fails(t, `\(a\1\)`, 3, api.ErrBack)
	fails(t, `\(\(a\)\1\)`, 7, api.ErrBack)
	fails(t, `\(a\)\2`, 5, api.ErrBack)
	fails(t, `\(\(a\)\3\)`, 7, api.ErrBack)
	fails(t, `\(a\)\(b\2\)`, 8, api.ErrBack)
	fails(t, `\1*`, 0, api.ErrBack)
}

// P8.1: a \ and each of the 256 bytes, at the text's beginning and elsewhere, and one that ends the text.
func TestEscapes(t *testing.T) {
	for c := range 256 {
		one := string([]byte{byte(c)})
		b := `\` + one
		switch {
		case strings.Contains("(){123456789", one):
			continue
		case one == "n":
			one = "\n"
		case one == "0" || 'A' <= c && c <= 'Z' || 'a' <= c && c <= 'z':
			failsAnywhere(t, b, 0, api.ErrEscape)
			failsAnywhere(t, b+"*", 0, api.ErrEscape)
			failsAnywhere(t, `\(`+b+`\)`, 2, api.ErrEscape)
			continue
		}
		means(t, b, 0, set(one))
		means(t, b+"*", 0, set(one), star(0))
		means(t, "^"+b, 0, bol(), set(one), cat(0, 1))
		means(t, `\(`+b+`\)`, 1, set(one), group(1, 0))
		means(t, "x"+b+"y", 0, set("x"), set(one), set("y"), cat(0, 1), cat(3, 2))
	}
	means(t, `\nn`, 0, set("\n"), set("n"), cat(0, 1))
	means(t, `\\n`, 0, set(`\`), set("n"), cat(0, 1))
	failsAnywhere(t, `\`, 0, api.ErrEscape)
	failsAnywhere(t, `\\\`, 2, api.ErrEscape)
	failsAnywhere(t, `\(\`, 2, api.ErrEscape)
	failsAnywhere(t, `\(\)\`, 4, api.ErrEscape)
	failsAnywhere(t, `a*\`, 2, api.ErrEscape)
	failsAnywhere(t, `\00`, 0, api.ErrEscape)
}

// P8.1: bracket expressions are read as chapter 7 tells; what is wrong in one is told at its [ .
func TestBrackets(t *testing.T) {
	means(t, "[a]", 0, set("a"))
	means(t, "[abc]", 0, set("abc"))
	means(t, "[a-c]d", 0, set("abc"), set("d"), cat(0, 1))
	means(t, "[]a]", 0, set("]a"))
	means(t, "[[:digit:]]*", 0, set("0123456789"), star(0))
	means(t, "[[.-.]]", 0, set("-"))
	means(t, `[\n]`, 0, set("\n"))
	means(t, `[\1]`, 0, set(`\1`))
	means(t, `[*]`, 0, set("*"))
	means(t, `[$]`, 0, set("$"))
	means(t, `[.]`, 0, set("."))
	means(t, `x[^$]`, 0, set("x"), api.Node{Kind: api.NSet, Set: class.Not(class.Of('$'))}, cat(0, 1))
	means(t, "^[a]$", 0, bol(), set("a"), eol(), cat(0, 1), cat(3, 2))
	means(t, `[a]\{2\}`, 0, set("a"), rep(0, 2, 2))
	means(t, `\([a]\)`, 1, set("a"), group(1, 0))
	means(t, "[a][b]", 0, set("a"), set("b"), cat(0, 1))
	means(t, "[a]]", 0, set("a"), set("]"), cat(0, 1))
	means(t, `\[a]`, 0, set("["), set("a"), set("]"), cat(0, 1), cat(3, 2))
	for b, e := range map[string]api.Errno{"[": api.ErrBracket, "[]": api.ErrBracket, "[a": api.ErrBracket, "[^": api.ErrBracket, "[^]": api.ErrBracket, `[\`: api.ErrBracket, `[\n`: api.ErrBracket, "[[:digit:]": api.ErrBracket, "[[:digit:": api.ErrBracket, "[[.a]": api.ErrBracket,
		"[[:x:]]": api.ErrClass, "[[::]]": api.ErrClass, "[[.ab.]]": api.ErrClass, "[[==]]": api.ErrClass, "[a[:x:]": api.ErrClass,
		"[b-a]": api.ErrRange, "[[:digit:]-z]": api.ErrRange, "[a-[:digit:]]": api.ErrRange, "[b-a": api.ErrRange} {
		failsAnywhere(t, b, 0, e)
		failsAnywhere(t, `\(`+b, 2, e)
		failsAnywhere(t, "[a]"+b, 3, e)
		fails(t, "^"+b, 1, e)
		fails(t, `\(^`+b, 3, e)
	}
}

// P8.1: a \) that ends no group, and a group that isn't ended.
func TestParens(t *testing.T) {
	failsAnywhere(t, `\)`, 0, api.ErrParen)
	failsAnywhere(t, `a\)`, 1, api.ErrParen)
	failsAnywhere(t, `\)\(`, 0, api.ErrParen)
	failsAnywhere(t, `\(\)\)`, 4, api.ErrParen)
	failsAnywhere(t, `\(a\(b\)\)\)c`, 10, api.ErrParen)
	failsAnywhere(t, `a*\)*`, 2, api.ErrParen)
	failsAnywhere(t, `a$\)`, 2, api.ErrParen)
	fails(t, `^\)`, 1, api.ErrParen)
	failsAnywhere(t, `\(`, 2, api.ErrParen)
	failsAnywhere(t, `\(a`, 3, api.ErrParen)
	failsAnywhere(t, `\(^`, 3, api.ErrParen)
	failsAnywhere(t, `\(*`, 3, api.ErrParen)
	failsAnywhere(t, `\(a$`, 4, api.ErrParen)
	failsAnywhere(t, `\(a)`, 4, api.ErrParen)
	failsAnywhere(t, `\(\(a\)`, 7, api.ErrParen)
	failsAnywhere(t, `\(a\(b`, 6, api.ErrParen)
	failsAnywhere(t, `\(\)\(`, 6, api.ErrParen)
	failsAnywhere(t, `\(a\\)`, 6, api.ErrParen)
	failsAnywhere(t, `\([\)]`, 6, api.ErrParen)
	failsAnywhere(t, `\(a\{2\}`, 8, api.ErrParen)
}

// P8.1: pieces of many kinds beside each other, each with its repetitions.
func TestTogether(t *testing.T) {
	means(t, `^\(ab*\)\1\{2,\}$`, 1, bol(), set("a"), set("b"), star(2), cat(1, 3), group(1, 4), back(1), rep(6, 2, api.Unbounded), eol(), cat(0, 5), cat(9, 7), cat(10, 8))
	means(t, `\(^*[0-2]\{3\}\($\)\)*.\n\2`, 2, bol(), set("*"), set("012"), rep(2, 3, 3), eol(), group(2, 4), cat(0, 1), cat(6, 3), cat(7, 5), group(1, 8), star(9), anyByte(), set("\n"), back(2), cat(10, 11), cat(14, 12), cat(15, 13))
}

// P8.1: what is wrong in more than one way is told by the first as it is read.
func TestFirstWrong(t *testing.T) {
	l := []struct {
		b  string
		at int
		e  api.Errno
	}{
		{`a\)`, 1, api.ErrParen},
		{`a\1`, 1, api.ErrBack},
		{`a\q`, 1, api.ErrEscape},
		{`a\0`, 1, api.ErrEscape},
		{`\(\{1\}`, 2, api.ErrRepeat},
		{`a\{2,1\}`, 1, api.ErrRepeat},
		{`a[b-a]`, 1, api.ErrRange},
		{`a[[:x:]]`, 1, api.ErrClass},
		{strings.Repeat(`\(`, 9) + `\(`, 18, api.ErrGroups},
		{`\(a\1`, 3, api.ErrBack},
		{`\(a\{`, 3, api.ErrRepeat},
	}
	for _, one := range l {
		fails(t, one.b, one.at, one.e)
		for _, two := range append(l, struct {
			b  string
			at int
			e  api.Errno
		}{`a[`, 1, api.ErrBracket}) {
			fails(t, one.b+two.b, one.at, one.e)
			fails(t, one.b+`\)`+two.b, one.at, one.e)
			fails(t, one.b+strings.Repeat("a", 2000)+two.b, one.at, one.e)
		}
	}
	fails(t, `a\{1[`, 1, api.ErrRepeat)
	fails(t, `a\{1\`, 1, api.ErrRepeat)
	fails(t, `[a\)`, 0, api.ErrBracket)
	fails(t, `\([\)`, 2, api.ErrBracket)
	fails(t, `\(\`, 2, api.ErrEscape)
	fails(t, `\([`, 2, api.ErrBracket)
}

// fill is a text for which n nodes are put, n from 1 on, and which is a branch's first piece.
func fill(n int) string { return "a" + strings.Repeat("*", n-1) }

// fullRe is a byte and 999 repetitions, one of the other.
func fullRe() []api.Node {
	l := []api.Node{set("a")}
	for len(l) < 1000 {
		l = append(l, star(len(l)-1))
	}
	return l
}

// has asks that the tree of b has so many nodes.
func has(t *testing.T, b string, nodes int) {
	t.Helper()
	if got := parse(b); got.e != api.OK || len(got.re.Nodes) != nodes {
		t.Errorf("%.99q: %d nodes, %v, want %d", b, len(got.re.Nodes), got.e, nodes)
	}
	likeModel(t, b)
}

// P8.1: 1,000 nodes are let; one more is ErrLong, at the place to which the text was read by then.
func TestNodes(t *testing.T) {
	means(t, fill(1000), 0, fullRe()...)
	for _, tail := range []string{"", "*", "b", `\`, `\)`, "[", `\(`, `\{`, strings.Repeat("*", 100000)} {
		fails(t, fill(1001)+tail, 1001, api.ErrLong)
	}
	has(t, fill(999), 999)
	has(t, strings.Repeat("a", 499), 997)
	has(t, strings.Repeat("a", 500), 999)
	has(t, strings.Repeat("a", 499)+"b*", 1000)
	has(t, "^"+strings.Repeat("a", 498)+"$", 999)
	for _, n := range []int{501, 502, 999, 1000} {
		fails(t, strings.Repeat("a", n), n, api.ErrLong)
	}
	fails(t, "^"+strings.Repeat("a", 499)+"$", 501, api.ErrLong)
	for _, n := range []int{1001, 1002, 65536, 1 << 20} {
		fails(t, strings.Repeat("a", n), 1001, api.ErrLong)
	}
	fails(t, strings.Repeat("a", 1000)+`\)`, 1000, api.ErrParen)
	fails(t, strings.Repeat("a", 1000)+`\q`, 1000, api.ErrEscape)
	fails(t, strings.Repeat("a", 1000)+`\n`, 1002, api.ErrLong)
}

// P8.1: whichever piece is one node too many, the place behind it is told; the node of a branch of many pieces is told where the branch ends.
func TestNodesOfEachKind(t *testing.T) {
	for _, w := range []string{"b", ".", "[b]", "[[:digit:]-]", `\n`, `\*`, "*", `\{2\}`, `\{2,\}`, `\{2,255\}`, `\{002\}`, "$", "^"} {
		fails(t, fill(1000)+w, 1000+len(w), api.ErrLong)
		fails(t, fill(1000)+w+`\q`, 1000+len(w), api.ErrLong)
	}
	for w, nodes := range map[string]int{"b": 1000, ".": 1000, "[b]": 1000, `\n`: 1000, `\*`: 1000, "*": 999, `\{2\}`: 999, `\{2,\}`: 999, "$": 1000, "^": 1000} {
		has(t, fill(998)+w, nodes)
	}
	// A second piece is the 1,000th node, and what puts both together is one too many.
	for _, w := range []string{"b", ".", "[b]", "[[:digit:]-]", `\n`, `\*`, "$", "^"} {
		fails(t, fill(999)+w, 999+len(w), api.ErrLong)
		fails(t, fill(999)+w+`\q`, 999+len(w), api.ErrEscape)
		fails(t, fill(999)+w+"b", 999+len(w)+1, api.ErrLong)
	}
	// What is wrong in itself is told ahead of that there is no room for it.
	for w, e := range map[string]api.Errno{`\`: api.ErrEscape, `\q`: api.ErrEscape, `\1`: api.ErrBack, `\)`: api.ErrParen, `\{`: api.ErrRepeat, `\{2,1\}`: api.ErrRepeat, "[": api.ErrBracket, "[b-a]": api.ErrRange, "[[:x:]]": api.ErrClass} {
		fails(t, fill(1000)+w, 1000, e)
	}
}

// P8.1: groups and what they took need nodes as well: a branch's node is told at its \) , the group's behind that.
func TestNodesOfGroups(t *testing.T) {
	means(t, `\(`+fill(999)+`\)`, 1, append(fullRe()[:999:999], group(1, 998))...)
	fails(t, `\(`+fill(1000)+`\)`, 1004, api.ErrLong)
	fails(t, `\(`+fill(1000)+`\)\q`, 1004, api.ErrLong)
	fails(t, `\(`+fill(1001)+`\)`, 1003, api.ErrLong)
	fails(t, `\(`+fill(999)+`b\)`, 1002, api.ErrLong)
	fails(t, `\(`+fill(998)+`\)\1`, 1004, api.ErrLong)
	fails(t, `\(`+fill(999)+`\)\1`, 1005, api.ErrLong)
	fails(t, fill(1000)+`\(\)`, 1002, api.ErrLong)
	fails(t, fill(999)+`\(\)`, 1003, api.ErrLong)
	fails(t, fill(998)+`\(\)`, 1002, api.ErrLong)
	fails(t, fill(1000)+`\(^\)`, 1003, api.ErrLong)
	fails(t, fill(1000)+`\($\)`, 1003, api.ErrLong)
	fails(t, fill(1000)+`\(b\)`, 1003, api.ErrLong)
	fails(t, fill(1000)+`\(\q\)`, 1002, api.ErrEscape)
	fails(t, fill(1000)+`\(`, 1002, api.ErrParen)
	fails(t, `\(`+fill(999)+`b`, 1002, api.ErrParen)
	fails(t, `\(`+strings.Repeat("a", 600), 602, api.ErrParen)
	fails(t, `\(`+strings.Repeat("a", 600)+`\)`, 602, api.ErrLong)
	fails(t, strings.Repeat(`\(\)`, 9)+fill(1000)+`\(`, 36+983, api.ErrLong)
	fails(t, strings.Repeat(`\(\)`, 9)+fill(982)+`\(`, 36+982, api.ErrGroups)
}

// P8.1: all short texts are read as the chapter's words tell.
func TestAllShortTexts(t *testing.T) {
	bytes := strings.Split(`\ ( ) { } [ ] * ^ $ . 1 0 , a n`, " ")
	eachText(bytes, 4, func(b string) { likeModel(t, b) })
	eachText([]string{`\`, "(", ")", "{", "1", "}", "*", "^", "$"}, 5, func(b string) { likeModel(t, b) })
}

// P8.1: so are all short rows of words.
func TestAllShortRows(t *testing.T) {
	words := []string{`\(`, `\)`, `\1`, `\2`, `\{2\}`, `\{1,\}`, "*", "^", "$", "a", ".", "[b]", `\n`, `\*`, `\{2,1\}`, `\q`, "[", `\`}
	eachText(words, 4, func(b string) { likeModel(t, b) })
	eachText([]string{`\(`, `\)`, `\1`, "*", "^", "$", "a"}, 6, func(b string) { likeModel(t, b) })
}

// P8.1: so are short rows of words where a few nodes more are too many.
func TestAllShortRowsAtTheLimit(t *testing.T) {
	words := []string{`\(`, `\)`, `\1`, `\{2\}`, "*", "^", "$", "a", "[b]", `\q`}
	for _, ahead := range []string{"", "^", `\(\)`, `\(`} {
		for room := range 8 {
			full := ahead + fill(1000-room-len(ahead))
			eachText(words, 2, func(b string) { likeModel(t, full+b) })
		}
	}
	eachText([]string{`\(`, `\)`, "*", "^", "a"}, 4, func(b string) { likeModel(t, fill(996)+b) })
}

// numbers are a row of numbers that is the same each time, and seems to have no order.
type numbers uint64

// Intn tells the next number, from 0 to n - 1.
func (x *numbers) Intn(n int) int {
	*x = *x*6364136223846793005 + 1442695040888963407
	return int(*x>>33) % n
}

// row tells a text of so many words that is no error for what groups or repetitions ask, and how many \( begin a group.
func (x *numbers) row(words int) (string, int) {
	var b strings.Builder
	groups, open, atom := 0, 0, false
	for range words {
		switch n := x.Intn(12); {
		case n < 2 && groups < 9:
			b.WriteString(`\(`)
			groups, open, atom = groups+1, open+1, false
		case n < 4 && open > 0:
			b.WriteString(`\)`)
			open, atom = open-1, true
		case n < 6 && atom:
			b.WriteString([]string{"*", `\{3\}`, `\{0,\}`, `\{1,255\}`}[x.Intn(4)])
		default:
			b.WriteString([]string{"a", ".", "[^a\\(]", `\n`, `\\`, "x^", "]", "(", "$a", `\}`}[x.Intn(10)])
			atom = true
		}
	}
	b.WriteString(strings.Repeat(`\)`, open))
	return b.String(), groups
}

// P8.2: what is answered is right, with as many groups as there are \( that begin one.
func TestRight(t *testing.T) {
	x := numbers(1)
	for n := range 3000 {
		b, groups := x.row(n % 150)
		got := parse(b)
		if got.e != api.OK || got.at != 0 || !tree.Right(got.re) || got.re.Groups != groups {
			t.Fatalf("%q: %v, want %d groups", b, got, groups)
		}
		likeModel(t, b)
	}
	for groups := range 10 {
		for _, b := range []string{strings.Repeat(`\(`, groups) + strings.Repeat(`\)`, groups), strings.Repeat(`\(a\)`, groups), `[\(]\\(` + strings.Repeat(`\(\)*`, groups)} {
			if got := parse(b); got.e != api.OK || !tree.Right(got.re) || got.re.Groups != groups {
				t.Errorf("%q: %v, want %d groups", b, got, groups)
			}
		}
	}
	if re := parse(fill(1000)).re; !tree.Right(re) || re.Groups != 0 || len(re.Nodes) != 1000 {
		t.Error(len(re.Nodes), re.Groups)
	}
}

// P8.2: all short texts that aren't wrong are right trees.
func TestAllShortRight(t *testing.T) {
	eachText([]string{`\(`, `\)`, `\1`, `\{2\}`, "*", "^", "$", "a"}, 5, func(b string) {
		got := parse(b)
		if got.e == api.OK && (!tree.Right(got.re) || got.re.Groups != strings.Count(b, `\(`)) {
			t.Fatalf("%q: %v", b, got)
		}
	})
}

// R3: beside an error there are no nodes and no groups; beside OK the place is 0.
func TestBesideErrors(t *testing.T) {
	for _, b := range []string{`\(a\)b\)`, `\(\)\(\)\(`, `abc\q`, `\(a\)\2`, fill(1001), `\(a\)[`} {
		if got := parse(b); got.e == api.OK || got.re.Groups != 0 || len(got.re.Nodes) != 0 {
			t.Errorf("%q: %v, %v", b, got, got.re)
		}
	}
}

// R4: what is handed in stays, and what lies behind its length isn't read; R6: the same again is answered the same.
func TestKeepsOff(t *testing.T) {
	for _, whole := range []string{`\(a\)\1`, `^*a$\)`, `a\{12,34\}*`, `[[:digit:]]]`, `\n\q`, `a$b$`, `\(\(^$\)\)`} {
		b := []byte(whole)
		for n := range len(b) + 1 {
			want := modelOf(whole[:n])
			for range 3 {
				re, at, e := bre.Parse(b[:n])
				if got := (told{re, at, e}); !same(got, want) {
					t.Errorf("%q, %d bytes of it: %v, want %v", whole, n, got, want)
				}
			}
		}
		if string(b) != whole {
			t.Errorf("%q became %q", whole, b)
		}
	}
}

// R4: what is answered may be written over.
func TestTreesAreNew(t *testing.T) {
	b := []byte(`\(a*\)[b-d]\1$`)
	want := told{re: reOf(1, slices.Clone(parse(string(b)).re.Nodes)...)}
	one, _, _ := bre.Parse(b)
	for i := range one.Nodes {
		one.Nodes[i] = rep(-1, -2, -3)
	}
	_ = append(one.Nodes[:1], bol(), bol())
	if re, at, e := bre.Parse(b); !same(told{re, at, e}, want) {
		t.Errorf("%v, then %v", want, told{re, at, e})
	}
	two, _, _ := bre.Parse(b)
	for i := range b {
		b[i] = 'z'
	}
	if !same(told{re: two}, want) {
		t.Errorf("%v, then %v", want, told{re: two})
	}
}
