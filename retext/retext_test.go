package retext_test

import (
	"bytes"
	"math"
	"slices"
	"strconv"
	"strings"
	"testing"

	"palinode/api"
	"palinode/bre"
	"palinode/class"
	"palinode/ere"
	"palinode/retext"
	"palinode/tree"
)

// ends are numbers far below and far above all that a tree may have.
var ends = []int{math.MinInt, math.MinInt + 1, -1 << 32, -1001, 1 << 32, math.MaxInt - 1, math.MaxInt}

// numbers are a row of numbers that is the same each time, and seems to have no order.
type numbers uint64

// Intn tells the next number, from 0 to n - 1.
func (x *numbers) Intn(n int) int {
	*x = *x*6364136223846793005 + 1442695040888963407
	return int(*x>>33) % n
}

func reOf(groups int, nodes ...api.Node) api.Re { return api.Re{Nodes: nodes, Groups: groups} }

func empty() api.Node            { return api.Node{Kind: api.NEmpty} }
func set(l ...byte) api.Node     { return api.Node{Kind: api.NSet, Set: class.Of(l...)} }
func cat(a, b int) api.Node      { return api.Node{Kind: api.NCat, A: a, B: b} }
func alt(a, b int) api.Node      { return api.Node{Kind: api.NAlt, A: a, B: b} }
func rep(a, lo, hi int) api.Node { return api.Node{Kind: api.NRep, A: a, Lo: lo, Hi: hi} }
func star(a int) api.Node        { return rep(a, 0, api.Unbounded) }
func group(g, a int) api.Node    { return api.Node{Kind: api.NGroup, A: a, Group: g} }
func back(g int) api.Node        { return api.Node{Kind: api.NBack, Group: g} }
func bol() api.Node              { return api.Node{Kind: api.NBol} }
func eol() api.Node              { return api.Node{Kind: api.NEol} }

// both are the two kinds, as extended says them.
var both = []bool{false, true}

// The kinds of which a tree has a text.
const (
	neither = iota
	onlyBasic
	onlyExtended
	inBoth
)

// has asks that re has a text of just the kinds that are told.
func has(t *testing.T, kinds int, re api.Re) {
	t.Helper()
	got := neither
	basic, extended := likeModel(t, re)
	if basic {
		got += onlyBasic
	}
	if extended {
		got += onlyExtended
	}
	if got != kinds {
		t.Errorf("%s: %d, want %d", treeText(re), got, kinds)
	}
}

// returns asks that what Parse answers of b has a text of that kind again, and tells the tree.
func returns(t *testing.T, b string, extended bool) api.Re {
	t.Helper()
	re, at, e := retext.Parse([]byte(b), extended)
	if e != api.OK || at != 0 {
		t.Fatalf("%.999q, %s: %d, %v", b, kindName(extended), at, e)
	}
	if !likeModelOf(t, re, extended) {
		t.Fatalf("%.999q, %s: no text", b, kindName(extended))
	}
	return re
}

// means asks that the tree of b is re, and that re has a text of that kind.
func means(t *testing.T, b string, extended bool, re api.Re) {
	t.Helper()
	if got := returns(t, b, extended); !tree.Same(got, re) {
		t.Errorf("%q, %s: %s", b, kindName(extended), treeText(got))
	}
}

// likeLayer asks Parse of b, of either kind, for what the layer of that kind tells.
func likeLayer(t *testing.T, b string) (basic, extended api.Errno) {
	t.Helper()
	wants := [2]api.Errno{}
	for i, extended := range both {
		re, at, e := retext.Parse([]byte(b), extended)
		want, place, fault := parse([]byte(b), extended)
		if !tree.Same(re, want) || at != place || e != fault {
			t.Fatalf("%.999q, %s: %s, %d, %v; want %s, %d, %v", b, kindName(extended), treeText(re), at, e, treeText(want), place, fault)
		}
		if e != api.OK && (len(re.Nodes) != 0 || re.Groups != 0) {
			t.Fatalf("%.999q, %s: %s beside %v", b, kindName(extended), treeText(re), e)
		}
		wants[i] = e
	}
	return wants[0], wants[1]
}

// eachText hands over all texts of up to most of these words.
func eachText(words []string, most int, do func(string)) {
	var grow func(string, int)
	grow = func(b string, left int) {
		do(b)
		if left == 0 {
			return
		}
		for _, w := range words {
			grow(b+w, left-1)
		}
	}
	grow("", most)
}

// P10.1: Parse is that of the layer that reads the kind, for right texts and for each error.
func TestParse(t *testing.T) {
	ten := func(begin, end string) string { return strings.Repeat(begin, 10) + strings.Repeat(end, 10) }
	for b, want := range map[string][2]api.Errno{
		"":                              {api.OK, api.OK},
		"a":                             {api.OK, api.OK},
		"*a":                            {api.OK, api.ErrRepeat},
		"a|b":                           {api.OK, api.OK},
		"a|":                            {api.OK, api.ErrEmpty},
		"|":                             {api.OK, api.ErrEmpty},
		"()":                            {api.OK, api.ErrEmpty},
		"(":                             {api.OK, api.ErrEmpty},
		"(a":                            {api.OK, api.ErrParen},
		"a)":                            {api.OK, api.ErrParen},
		`\(a`:                           {api.ErrParen, api.OK},
		`a\)`:                           {api.ErrParen, api.OK},
		`\(a\)\1`:                       {api.OK, api.ErrBack},
		"(a)\\1":                        {api.ErrBack, api.OK},
		`\(a\1\)`:                       {api.ErrBack, api.ErrBack},
		`\`:                             {api.ErrEscape, api.ErrEscape},
		`a\q`:                           {api.ErrEscape, api.ErrEscape},
		`\0`:                            {api.ErrEscape, api.ErrEscape},
		`a\{2\}`:                        {api.OK, api.OK},
		"a{2}":                          {api.OK, api.OK},
		`a\{3,2\}`:                      {api.ErrRepeat, api.OK},
		"a{3,2}":                        {api.OK, api.ErrRepeat},
		"a{256}":                        {api.OK, api.ErrRepeat},
		`\{`:                            {api.ErrRepeat, api.OK},
		"^*":                            {api.OK, api.ErrRepeat},
		"[":                             {api.ErrBracket, api.ErrBracket},
		"x[[:no:]]":                     {api.ErrClass, api.ErrClass},
		"x[b-a]":                        {api.ErrRange, api.ErrRange},
		ten("(", "a)"):                  {api.OK, api.ErrGroups},
		ten(`\(`, `a\)`):                {api.ErrGroups, api.OK},
		strings.Repeat("a", 500):        {api.OK, api.OK},
		strings.Repeat("a", 501):        {api.ErrLong, api.ErrLong},
		strings.Repeat("a", 100000):     {api.ErrLong, api.ErrLong},
		"a" + strings.Repeat("*", 1000): {api.ErrLong, api.ErrLong},
		"a\x00\xff\n/":                  {api.OK, api.OK},
	} {
		if basic, extended := likeLayer(t, b); basic != want[0] || extended != want[1] {
			t.Errorf("%.99q: %v, %v", b, basic, extended)
		}
	}
}

// P10.1: Parse tells the place of what is wrong, each kind its own.
func TestParsePlace(t *testing.T) {
	for _, x := range []struct {
		b        string
		extended bool
		at       int
		e        api.Errno
	}{
		{`ab\(c`, false, 5, api.ErrParen},
		{`ab\(c`, true, 0, api.OK},
		{"ab(c", true, 4, api.ErrParen},
		{"ab(c", false, 0, api.OK},
		{`a|b\q`, false, 3, api.ErrEscape},
		{`a||\q`, true, 2, api.ErrEmpty},
		{"ab[z-a]", false, 2, api.ErrRange},
		{"ab[z-a]", true, 2, api.ErrRange},
		{"a**{", true, 3, api.ErrRepeat},
	} {
		re, at, e := retext.Parse([]byte(x.b), x.extended)
		if at != x.at || e != x.e || (e == api.OK) != tree.Right(re) {
			t.Errorf("%q, %s: %s, %d, %v", x.b, kindName(x.extended), treeText(re), at, e)
		}
	}
	for _, b := range [][]byte{nil, {}, []byte("a")[:0]} {
		for _, extended := range both {
			if re, at, e := retext.Parse(b, extended); !tree.Same(re, reOf(0, empty())) || at != 0 || e != api.OK {
				t.Error(re, at, e)
			}
		}
	}
}

// P10.1 and P10.2: all short texts: Parse is that of the layer, and what it answers has a text.
func TestShortTexts(t *testing.T) {
	right := 0
	each := func(b string) {
		basic, extended := likeLayer(t, b)
		if basic == api.OK {
			returns(t, b, false)
			right++
		}
		if extended == api.OK {
			returns(t, b, true)
			right++
		}
	}
	eachText([]string{"a", "*", `\`, "(", ")", "{", "}", "1", "^", "$", "|", "[", "]"}, 4, each)
	eachText([]string{"a", "*", "^", "$", `\(`, `\)`, `\{2\}`, `\1`}, 5, each)
	eachText([]string{"a", "+", "^", "$", "(", ")", "|", `\1`}, 5, each)
	if right < 10000 {
		t.Error(right)
	}
}

// P10.1: nothing is a text of either kind; within a group of the basic one alone.
func TestEmpty(t *testing.T) {
	means(t, "", false, reOf(0, empty()))
	means(t, "", true, reOf(0, empty()))
	has(t, inBoth, reOf(0, empty()))
	for _, extended := range both {
		if b, ok := retext.Text(reOf(0, empty()), extended); !ok || len(b) != 0 {
			t.Errorf("%q, %v", b, ok)
		}
	}
	means(t, `\(\)`, false, reOf(1, empty(), group(1, 0)))
	has(t, onlyBasic, reOf(1, empty(), group(1, 0)))
	has(t, onlyBasic, reOf(2, empty(), group(2, 0), group(1, 1)))
	has(t, onlyBasic, reOf(1, set('a'), empty(), group(1, 1), back(1), cat(0, 2), cat(4, 3)))
	has(t, onlyBasic, reOf(1, empty(), group(1, 0), star(1)))
	has(t, neither, reOf(0, empty(), star(0)))
	has(t, neither, reOf(0, empty(), rep(0, 2, 2)))
	has(t, neither, reOf(0, set('a'), empty(), cat(0, 1)))
	has(t, neither, reOf(0, empty(), set('a'), cat(0, 1)))
	has(t, neither, reOf(0, empty(), empty(), cat(0, 1)))
	has(t, neither, reOf(0, set('a'), empty(), alt(0, 1)))
	has(t, neither, reOf(0, empty(), set('a'), alt(0, 1)))
	has(t, neither, reOf(1, empty(), set('a'), alt(0, 1), group(1, 2)))
	has(t, neither, reOf(0, bol(), empty(), cat(0, 1)))
	has(t, neither, reOf(0, empty(), eol(), cat(0, 1)))
}

// setsAround asks that a byte of s has a text of either kind wherever it stands.
func setsAround(t *testing.T, s api.Set) {
	t.Helper()
	n := api.Node{Kind: api.NSet, Set: s}
	has(t, inBoth, reOf(0, n))
	has(t, inBoth, reOf(0, n, star(0)))
	has(t, inBoth, reOf(0, n, rep(0, 1, 2)))
	has(t, inBoth, reOf(0, n, n, cat(0, 1)))
	has(t, inBoth, reOf(0, bol(), n, star(1), eol(), cat(0, 2), cat(4, 3)))
	has(t, inBoth, reOf(1, n, star(0), n, cat(1, 2), group(1, 3), n, cat(4, 5)))
	has(t, inBoth, reOf(1, set('a'), group(1, 0), back(1), n, cat(1, 2), cat(4, 3)))
	has(t, onlyExtended, reOf(0, n, n, alt(0, 1)))
}

// P10.1: each of the 256 bytes, alone and beside what could take it along.
func TestEachByte(t *testing.T) {
	for c := range 256 {
		setsAround(t, class.Of(byte(c)))
		setsAround(t, class.Not(class.Of(byte(c))))
	}
}

// P10.1: any two bytes one behind the other, of those that mean something and some more.
func TestBytesBeside(t *testing.T) {
	l := []byte("\\[]^-.*$(){}+?|,:=/&\n0129an\x00\x7f\x80\xff")
	for _, a := range l {
		for _, b := range l {
			has(t, inBoth, reOf(0, set(a), set(b), cat(0, 1)))
			has(t, inBoth, reOf(0, set(a), star(0), set(b), cat(1, 2)))
			has(t, inBoth, reOf(0, set(a, b)))
			has(t, onlyExtended, reOf(0, set(a), set(b), alt(0, 1)))
			for _, c := range l {
				has(t, inBoth, reOf(0, set(a), set(b), set(c), cat(0, 1), cat(3, 2)))
				has(t, inBoth, reOf(0, set(a, b, c)))
			}
		}
	}
}

// P10.1: no byte at all, all bytes, classes, rows of bytes from any to any, with ] and ^ and - among them and without.
func TestSets(t *testing.T) {
	for _, s := range []api.Set{class.Of(), class.Not(class.Of()), class.Of(']', '^', '-'), class.Of('[', '.', '=', ':')} {
		setsAround(t, s)
		setsAround(t, class.Not(s))
	}
	for _, name := range strings.Fields("upper lower digit alpha alnum blank space cntrl graph print punct xdigit") {
		s, _ := class.Named(name)
		setsAround(t, s)
		setsAround(t, class.Not(s))
	}
	special := class.Of(']', '^', '-')
	for a := range 256 {
		for b := a; b < 256; b++ {
			row := class.Range(byte(a), byte(b))
			for _, s := range []api.Set{row, class.Not(row), class.Union(row, special), class.Not(class.Union(class.Not(row), special))} {
				has(t, inBoth, reOf(0, api.Node{Kind: api.NSet, Set: s}))
			}
		}
	}
}

// P10.1: sets that seem to have no order.
func TestSomeSets(t *testing.T) {
	r := numbers(10)
	for range 2000 {
		var s api.Set
		for i := range s {
			for range 64 {
				s[i] = s[i]<<1 | uint64(r.Intn(2))
			}
		}
		switch r.Intn(4) {
		case 0:
			s = class.Of(class.Bytes(s)[:3]...)
		case 1:
			s[1+r.Intn(3)] = 0
		}
		has(t, inBoth, reOf(0, api.Node{Kind: api.NSet, Set: s}))
	}
}

// P10.1: what a reader would write by hand: a byte is itself, or stands behind a \ , and all bytes are a . .
func TestPlainText(t *testing.T) {
	for _, x := range []struct {
		re              api.Re
		basic, extended []string
	}{
		{reOf(0, set('a')), []string{"a"}, []string{"a"}},
		{reOf(0, set('*')), []string{`\*`, "[*]"}, []string{`\*`, "[*]"}},
		{reOf(0, set('(')), []string{"(", "[(]"}, []string{`\(`, "[(]"}},
		{reOf(0, set('|')), []string{"|", "[|]"}, []string{`\|`, "[|]"}},
		{reOf(0, set('\\')), []string{`\\`}, []string{`\\`}},
		{reOf(0, set('\n')), []string{`\n`, `[\n]`}, []string{`\n`, `[\n]`}},
		{reOf(0, api.Node{Kind: api.NSet, Set: class.Not(class.Of())}), []string{"."}, []string{"."}},
		{reOf(0, set('a'), star(0)), []string{"a*"}, []string{"a*"}},
		{reOf(0, set('a'), rep(0, 2, 3)), []string{`a\{2,3\}`}, []string{"a{2,3}"}},
		{reOf(1, bol(), set('a'), group(1, 1), back(1), eol(), cat(0, 2), cat(5, 3), cat(6, 4)), []string{`^\(a\)\1$`}, []string{`^(a)\1$`}},
	} {
		basic, ok := retext.Text(x.re, false)
		if !ok || !slices.Contains(x.basic, string(basic)) {
			t.Errorf("%s: %q, %v", treeText(x.re), basic, ok)
		}
		extended, ok := retext.Text(x.re, true)
		if !ok || !slices.Contains(x.extended, string(extended)) {
			t.Errorf("%s: %q, %v", treeText(x.re), extended, ok)
		}
	}
}

// P10.1: an anchor stands alone, at a branch's beginning, in its midst, at its end, behind another, in a group: the extended kind has all of these, the basic one a ^ at the beginning and a $ at the end.
func TestAnchors(t *testing.T) {
	has(t, inBoth, reOf(0, bol()))
	has(t, inBoth, reOf(0, eol()))
	has(t, inBoth, reOf(0, bol(), eol(), cat(0, 1)))
	has(t, onlyExtended, reOf(0, eol(), bol(), cat(0, 1)))
	has(t, onlyExtended, reOf(0, bol(), bol(), cat(0, 1)))
	has(t, onlyExtended, reOf(0, eol(), eol(), cat(0, 1)))
	has(t, inBoth, reOf(0, bol(), set('a'), cat(0, 1)))
	has(t, onlyExtended, reOf(0, set('a'), bol(), cat(0, 1)))
	has(t, inBoth, reOf(0, set('a'), eol(), cat(0, 1)))
	has(t, onlyExtended, reOf(0, eol(), set('a'), cat(0, 1)))
	has(t, inBoth, reOf(0, bol(), set('a'), eol(), cat(0, 1), cat(3, 2)))
	has(t, onlyExtended, reOf(0, set('a'), bol(), set('b'), cat(0, 1), cat(3, 2)))
	has(t, onlyExtended, reOf(0, set('a'), eol(), set('b'), cat(0, 1), cat(3, 2)))
	has(t, inBoth, reOf(0, bol(), set('*'), cat(0, 1)))
	has(t, inBoth, reOf(0, bol(), set('^'), cat(0, 1)))
	has(t, inBoth, reOf(0, set('$'), eol(), cat(0, 1)))
	has(t, inBoth, reOf(1, bol(), group(1, 0)))
	has(t, inBoth, reOf(1, eol(), group(1, 0)))
	has(t, inBoth, reOf(1, bol(), eol(), cat(0, 1), group(1, 2)))
	has(t, onlyExtended, reOf(1, set('a'), bol(), cat(0, 1), group(1, 2)))
	has(t, inBoth, reOf(1, set('a'), bol(), set('b'), cat(1, 2), group(1, 3), cat(0, 4)))
	has(t, inBoth, reOf(1, set('a'), eol(), cat(0, 1), group(1, 2), set('b'), cat(3, 4)))
	has(t, inBoth, reOf(2, bol(), group(1, 0), eol(), group(2, 2), cat(1, 3)))
	has(t, onlyExtended, reOf(1, set('a'), group(1, 0), bol(), cat(1, 2)))
	has(t, onlyExtended, reOf(1, eol(), set('a'), group(1, 1), cat(0, 2)))
	has(t, onlyExtended, reOf(0, bol(), eol(), alt(0, 1)))
	has(t, onlyExtended, reOf(0, set('a'), bol(), set('b'), cat(1, 2), alt(0, 3)))
	means(t, "^a$", false, reOf(0, bol(), set('a'), eol(), cat(0, 1), cat(3, 2)))
	means(t, "a^b$c", true, reOf(0, set('a'), bol(), set('b'), eol(), set('c'), cat(0, 1), cat(5, 2), cat(6, 3), cat(7, 4)))
}

// repetitions asks for a text of either kind of ahead and a repetition of its last node by each pair of numbers that a tree may have.
func repetitions(t *testing.T, groups int, ahead ...api.Node) {
	t.Helper()
	for lo := range 256 {
		has(t, inBoth, reOf(groups, append(slices.Clone(ahead), rep(len(ahead)-1, lo, api.Unbounded))...))
		for hi := lo; hi < 256; hi++ {
			has(t, inBoth, reOf(groups, append(slices.Clone(ahead), rep(len(ahead)-1, lo, hi))...))
		}
	}
}

// P10.1: a repetition of an atom, of a group, and of a repetition, with each pair of numbers.
func TestRepetitions(t *testing.T) {
	repetitions(t, 0, set('a'))
	repetitions(t, 0, set('{'), star(0))
	repetitions(t, 1, set('}'), group(1, 0))
}

// P10.1: a repetition of what a group took, with each pair of numbers.
func TestRepetitionsOfBack(t *testing.T) {
	for lo := range 256 {
		for hi := -1; hi < 256; hi++ {
			if 0 <= hi && hi < lo {
				continue
			}
			has(t, inBoth, reOf(1, set('a'), group(1, 0), back(1), rep(2, lo, hi), cat(1, 3)))
		}
	}
}

// P10.1: what stands behind a repetition, or ahead of it, takes nothing along of it.
func TestRepetitionsBeside(t *testing.T) {
	for _, c := range []byte("a0,*+?{}\\()|^$[]n\n") {
		for _, n := range []api.Node{rep(0, 0, 0), rep(0, 0, 1), rep(0, 1, 1), rep(0, 1, -1), rep(0, 0, -1), rep(0, 2, 255), rep(0, 255, 255)} {
			has(t, inBoth, reOf(0, set('a'), n, set(c), cat(1, 2)))
			n.A = 1
			has(t, inBoth, reOf(0, set(c), set('a'), n, cat(0, 2)))
			has(t, inBoth, reOf(0, set(c), star(0), n))
			has(t, inBoth, reOf(0, set(c), rep(0, 3, 4), n))
		}
	}
}

// P10.1: a repetition of an anchor, of two that are joined, and of alternatives that are in no group, has no text.
func TestRepetitionsOfNone(t *testing.T) {
	for _, x := range [][2]int{{0, -1}, {0, 0}, {0, 1}, {1, 1}, {1, -1}, {2, 2}, {2, 5}, {255, 255}} {
		lo, hi := x[0], x[1]
		has(t, neither, reOf(0, bol(), rep(0, lo, hi)))
		has(t, neither, reOf(0, eol(), rep(0, lo, hi)))
		has(t, neither, reOf(0, set('a'), eol(), rep(1, lo, hi), cat(0, 2)))
		has(t, neither, reOf(0, bol(), rep(0, lo, hi), set('a'), cat(1, 2)))
		has(t, neither, reOf(0, set('a'), set('b'), cat(0, 1), rep(2, lo, hi)))
		has(t, neither, reOf(0, bol(), set('b'), cat(0, 1), rep(2, lo, hi)))
		has(t, neither, reOf(0, set('a'), set('b'), alt(0, 1), rep(2, lo, hi)))
		has(t, neither, reOf(0, empty(), rep(0, lo, hi)))
		has(t, inBoth, reOf(1, bol(), group(1, 0), rep(1, lo, hi)))
		has(t, inBoth, reOf(1, eol(), group(1, 0), rep(1, lo, hi)))
		has(t, inBoth, reOf(1, set('a'), set('b'), cat(0, 1), group(1, 2), rep(3, lo, hi)))
		has(t, onlyExtended, reOf(1, set('a'), set('b'), alt(0, 1), group(1, 2), rep(3, lo, hi)))
	}
}

// P10.1: groups one behind the other and one in another, counted by where they begin.
func TestGroups(t *testing.T) {
	has(t, inBoth, reOf(1, set('a'), group(1, 0)))
	has(t, inBoth, reOf(2, set('a'), group(2, 0), group(1, 1)))
	has(t, neither, reOf(2, set('a'), group(1, 0), group(2, 1)))
	has(t, inBoth, reOf(2, set('a'), group(1, 0), set('b'), group(2, 2), cat(1, 3)))
	has(t, neither, reOf(2, set('a'), group(2, 0), set('b'), group(1, 2), cat(1, 3)))
	has(t, inBoth, reOf(3, set('a'), group(2, 0), set('b'), group(3, 2), cat(1, 3), group(1, 4)))
	has(t, neither, reOf(3, set('a'), group(1, 0), set('b'), group(2, 2), cat(1, 3), group(3, 4)))
	has(t, neither, reOf(3, set('a'), group(3, 0), set('b'), group(2, 2), cat(1, 3), group(1, 4)))
	means(t, `\(a\(b\)*\)`, false, reOf(2, set('a'), set('b'), group(2, 1), star(2), cat(0, 3), group(1, 4)))
	means(t, `(a(b)*)`, true, reOf(2, set('a'), set('b'), group(2, 1), star(2), cat(0, 3), group(1, 4)))
	nested, behind := reOf(9, set('a')), reOf(9)
	for g := 9; g >= 1; g-- {
		nested.Nodes = append(nested.Nodes, group(g, 9-g))
	}
	for g := 1; g <= 9; g++ {
		behind.Nodes = append(behind.Nodes, set('a'), group(g, 2*g-2))
	}
	for g := 2; g <= 9; g++ {
		before := 1
		if g > 2 {
			before = len(behind.Nodes) - 1
		}
		behind.Nodes = append(behind.Nodes, cat(before, 2*g-1))
	}
	has(t, inBoth, nested)
	has(t, inBoth, behind)
	for _, re := range []api.Re{nested, behind} {
		for at, n := range re.Nodes {
			if n.Kind == api.NGroup {
				other := reOf(9, slices.Clone(re.Nodes)...)
				other.Nodes[at].Group = 10 - n.Group
				for i := range other.Nodes {
					if i != at && other.Nodes[i].Kind == api.NGroup && other.Nodes[i].Group == 10-n.Group {
						other.Nodes[i].Group = n.Group
					}
				}
				if n.Group == 5 {
					has(t, inBoth, other)
				} else {
					has(t, neither, other)
				}
			}
		}
	}
}

// P10.1: what a group took has a text behind where the group ends, and nowhere else.
func TestBacks(t *testing.T) {
	for n := 1; n <= 9; n++ {
		for g := 1; g <= 9; g++ {
			behind, within := "", ""
			for range n {
				behind += `\(a\)`
				within = `\(` + within
			}
			within += "a" + strings.Repeat(`\)`, n)
			for _, b := range []string{behind, within} {
				b += `\` + strconv.Itoa(g)
				plain := strings.NewReplacer(`\(`, "(", `\)`, ")").Replace(b)
				if g > n {
					likeLayer(t, b)
					likeLayer(t, plain)
					continue
				}
				re := returns(t, b, false)
				means(t, plain, true, re)
				has(t, inBoth, re)
			}
		}
	}
	has(t, inBoth, reOf(1, set('a'), group(1, 0), back(1), cat(1, 2)))
	has(t, inBoth, reOf(1, set('a'), group(1, 0), back(1), set('0'), cat(1, 2), cat(4, 3)))
	has(t, inBoth, reOf(1, set('a'), group(1, 0), back(1), back(1), cat(1, 2), cat(4, 3)))
	has(t, inBoth, reOf(2, set('a'), group(1, 0), back(1), group(2, 2), back(2), cat(1, 3), cat(5, 4)))
	has(t, inBoth, reOf(2, set('a'), group(2, 0), back(2), cat(1, 2), group(1, 3), back(1), cat(4, 5)))
	has(t, onlyExtended, reOf(1, set('a'), group(1, 0), back(1), alt(1, 2)))
	has(t, neither, reOf(1, back(1), group(1, 0)))
	has(t, neither, reOf(1, back(1), set('a'), group(1, 1), cat(0, 2)))
	has(t, neither, reOf(1, set('a'), back(1), cat(0, 1), group(1, 2)))
	has(t, neither, reOf(2, set('a'), back(2), group(1, 1), cat(0, 2), set('b'), group(2, 4), cat(3, 5)))
	has(t, neither, reOf(2, set('a'), group(1, 0), back(2), set('b'), group(2, 3), cat(1, 2), cat(5, 4)))
	has(t, neither, reOf(2, set('a'), group(2, 0), back(1), cat(1, 2), group(1, 3)))
	has(t, neither, reOf(0, back(1)))
}

// P10.1: what is joined stands ahead of what joins it, and is joined from the left.
func TestJoined(t *testing.T) {
	a, b, c, d := set('a'), set('b'), set('c'), set('d')
	has(t, inBoth, reOf(0, a, b, cat(0, 1)))
	has(t, neither, reOf(0, b, a, cat(1, 0)))
	has(t, inBoth, reOf(0, a, b, c, cat(0, 1), cat(3, 2)))
	has(t, neither, reOf(0, a, b, c, cat(1, 2), cat(0, 3)))
	has(t, neither, reOf(0, a, b, cat(0, 1), c, cat(2, 3)))
	has(t, neither, reOf(0, a, b, c, cat(0, 2), cat(3, 1)))
	has(t, neither, reOf(0, a, b, c, cat(0, 1), cat(2, 3)))
	has(t, inBoth, reOf(0, a, b, c, d, cat(0, 1), cat(4, 2), cat(5, 3)))
	has(t, neither, reOf(0, a, b, c, d, cat(0, 1), cat(2, 3), cat(4, 5)))
	has(t, neither, reOf(0, a, b, c, d, cat(2, 3), cat(1, 4), cat(0, 5)))
	has(t, neither, reOf(0, a, b, cat(0, 1), c, d, cat(3, 4), cat(2, 5)))
	has(t, inBoth, reOf(0, a, star(0), b, star(2), cat(1, 3)))
	has(t, neither, reOf(0, a, b, star(0), star(1), cat(2, 3)))
	has(t, neither, reOf(0, a, b, star(0), cat(2, 1)))
	has(t, inBoth, reOf(1, a, b, cat(0, 1), group(1, 2), c, cat(3, 4)))
	has(t, inBoth, reOf(1, a, b, c, cat(1, 2), group(1, 3), cat(0, 4)))
	has(t, neither, reOf(1, a, b, group(1, 0), cat(2, 1)))
	has(t, neither, reOf(1, a, b, group(1, 1), c, cat(0, 2), cat(3, 4)))
	has(t, inBoth, reOf(1, a, b, group(1, 1), c, cat(0, 2), cat(4, 3)))
}

// P10.1: alternatives have an extended text alone: outside and in groups, from the left, what joins them behind all of them.
func TestAlternatives(t *testing.T) {
	a, b, c, d := set('a'), set('b'), set('c'), set('d')
	has(t, onlyExtended, reOf(0, a, b, alt(0, 1)))
	has(t, neither, reOf(0, b, a, alt(1, 0)))
	has(t, onlyExtended, reOf(0, a, b, c, alt(0, 1), alt(3, 2)))
	has(t, neither, reOf(0, a, b, c, alt(1, 2), alt(0, 3)))
	has(t, neither, reOf(0, a, b, alt(0, 1), c, alt(2, 3)))
	has(t, neither, reOf(0, a, b, c, alt(0, 2), alt(3, 1)))
	has(t, onlyExtended, reOf(0, a, b, c, d, alt(0, 1), alt(4, 2), alt(5, 3)))
	has(t, neither, reOf(0, a, b, c, d, alt(0, 1), alt(2, 3), alt(4, 5)))
	has(t, onlyExtended, reOf(0, a, b, cat(0, 1), c, alt(2, 3)))
	has(t, onlyExtended, reOf(0, a, b, c, cat(1, 2), alt(0, 3)))
	has(t, neither, reOf(0, a, b, c, cat(0, 1), alt(3, 2)))
	has(t, neither, reOf(0, a, b, alt(0, 1), c, cat(2, 3)))
	has(t, neither, reOf(0, a, b, c, alt(1, 2), cat(0, 3)))
	has(t, neither, reOf(0, a, b, c, alt(0, 1), cat(3, 2)))
	has(t, onlyExtended, reOf(1, a, b, alt(0, 1), group(1, 2)))
	has(t, onlyExtended, reOf(1, a, b, c, alt(0, 1), alt(3, 2), group(1, 4)))
	has(t, neither, reOf(1, a, b, c, alt(1, 2), alt(0, 3), group(1, 4)))
	has(t, onlyExtended, reOf(1, a, b, alt(0, 1), group(1, 2), c, cat(3, 4)))
	has(t, onlyExtended, reOf(1, a, b, c, alt(1, 2), group(1, 3), alt(0, 4)))
	has(t, onlyExtended, reOf(2, a, b, alt(0, 1), group(1, 2), c, d, alt(4, 5), group(2, 6), alt(3, 7)))
	has(t, onlyExtended, reOf(1, a, group(1, 0), b, back(1), alt(1, 2), alt(4, 3)))
	has(t, neither, reOf(1, a, group(1, 0), b, alt(1, 2), back(1), alt(3, 4)))
	means(t, "a|bc|d", true, reOf(0, a, b, c, cat(1, 2), d, alt(0, 3), alt(5, 4)))
}

// P10.1: a tree that isn't right has no text.
func TestNotRight(t *testing.T) {
	a := set('a')
	for _, re := range []api.Re{
		{}, {Nodes: []api.Node{}}, {Groups: 1}, {Groups: math.MaxInt},
		reOf(1, a), reOf(9, a), reOf(10, a), reOf(-1, a), reOf(0, a, group(1, 0)), reOf(2, a, group(1, 0)), reOf(3, a, group(1, 0), group(2, 1)),
		reOf(1, a, group(1, 0), group(1, 1)), reOf(2, a, group(1, 0), group(1, 1)), reOf(1, a, group(2, 0)), reOf(1, a, group(0, 0)), reOf(10, a, group(10, 0)),
		reOf(1, a, group(1, 0), back(2), cat(1, 2)), reOf(1, a, group(1, 0), back(0), cat(1, 2)), reOf(0, a, back(1), cat(0, 1)),
		reOf(0, a, a), reOf(0, a, bol(), eol()), reOf(0, a, a, cat(0, 0)), reOf(0, a, cat(0, 0)), reOf(0, a, alt(0, 0)), reOf(0, a, a, a, cat(0, 1)),
		reOf(0, a, star(0), cat(0, 1)), reOf(0, a, a, cat(0, 1), cat(1, 2)), reOf(0, a, a, cat(0, 1), a),
		reOf(0, star(0)), reOf(0, a, star(1)), reOf(0, star(1), a), reOf(0, cat(1, 2), a, a), reOf(0, a, cat(0, 1)), reOf(0, a, a, cat(0, 3)),
		reOf(0, a, rep(0, -1, -1)), reOf(0, a, rep(0, 0, -2)), reOf(0, a, rep(0, 256, -1)), reOf(0, a, rep(0, 0, 256)), reOf(0, a, rep(0, 3, 2)),
		reOf(0, api.Node{Kind: -1}), reOf(0, api.Node{Kind: 9}), reOf(0, a, api.Node{Kind: 9, A: 0}),
		reOf(0, api.Node{Kind: api.NSet, Lo: 1}), reOf(0, api.Node{Kind: api.NEmpty, Set: api.Set{1}}), reOf(0, api.Node{Kind: api.NBol, Hi: -1}),
		reOf(0, api.Node{Kind: api.NEol, Group: 1}), reOf(0, a, api.Node{Kind: api.NRep, A: 0, B: 1}), reOf(0, a, a, api.Node{Kind: api.NCat, A: 0, B: 1, Hi: -1}),
		reOf(1, a, api.Node{Kind: api.NGroup, A: 0, Group: 1, Lo: 1}), reOf(1, a, group(1, 0), api.Node{Kind: api.NBack, Group: 1, A: 1}, cat(1, 2)),
	} {
		has(t, neither, re)
	}
	for _, n := range ends {
		for _, re := range []api.Re{
			reOf(n), reOf(n, a), reOf(0, a, star(n)), reOf(0, a, a, cat(n, 1)), reOf(0, a, a, cat(0, n)), reOf(0, a, a, alt(n, n)), reOf(1, a, group(1, n)),
			reOf(1, a, group(n, 0)), reOf(n, a, group(1, 0)), reOf(1, a, group(1, 0), back(n), cat(1, 2)), reOf(0, a, rep(0, n, -1)), reOf(0, a, rep(0, 0, n)),
			reOf(0, a, rep(0, n, n)), reOf(0, api.Node{Kind: n}), reOf(0, api.Node{Kind: n, A: n, B: n, Lo: n, Hi: n, Group: n}),
		} {
			has(t, neither, re)
		}
	}
}

// P10.1: a part that is used twice, again and again: it isn't written at all, or the text would have no end in sight.
func TestUsedTwice(t *testing.T) {
	for _, of := range []func(a, b int) api.Node{cat, alt} {
		re := reOf(0, set('a'))
		for i := range 999 {
			re.Nodes = append(re.Nodes, of(i, i))
		}
		has(t, neither, re)
	}
}

// row is n nodes ahead, and then as many as it takes to put them together from the left.
func row(n int, each api.Node, of func(a, b int) api.Node) api.Re {
	var re api.Re
	for range n {
		re.Nodes = append(re.Nodes, each)
	}
	for i := 1; i < n; i++ {
		re.Nodes = append(re.Nodes, of(max(0, n+i-2)*min(1, i-1), i))
	}
	return re
}

// around is re in that many repetitions, one around the other.
func around(re api.Re, n int) api.Re {
	re = reOf(re.Groups, slices.Clone(re.Nodes)...)
	for range n {
		re.Nodes = append(re.Nodes, rep(len(re.Nodes)-1, 255, 255))
	}
	return re
}

// P10.1: trees of about 1,000 nodes, wide and deep, with short and with long texts.
func TestManyNodes(t *testing.T) {
	long := api.Node{Kind: api.NSet}
	for c := 0; c < 256; c += 2 {
		long.Set = class.Union(long.Set, class.Of(byte(c)))
	}
	for _, each := range []api.Node{set('a'), set('*'), long} {
		has(t, inBoth, row(499, each, cat))
		has(t, inBoth, row(500, each, cat))
		has(t, neither, row(501, each, cat))
		has(t, onlyExtended, row(500, each, alt))
		has(t, neither, row(501, each, alt))
		has(t, neither, around(row(500, each, cat), 1))
	}
	has(t, onlyExtended, row(500, bol(), cat))
	has(t, onlyExtended, row(500, eol(), alt))
	has(t, neither, row(500, empty(), alt))
	for n := 990; n <= 999; n++ {
		has(t, inBoth, around(reOf(0, set('a')), n))
		has(t, neither, around(reOf(0, eol()), n))
	}
	for n := 1000; n < 1010; n++ {
		has(t, neither, around(reOf(0, set('a')), n))
	}
	has(t, neither, around(reOf(0, set('a')), 100000))
	for _, extended := range both {
		means(t, strings.Repeat("a", 500), extended, row(500, set('a'), cat))
		returns(t, strings.Repeat("[^b]*", 333), extended)
		returns(t, "a"+strings.Repeat("*", 999), extended)
	}
	returns(t, strings.Repeat("a|", 499)+"b", true)
	returns(t, "("+strings.Repeat("ab|", 249)+"c)*", true)
	returns(t, `\(`+strings.Repeat("a", 498)+`\)\1*`, false)
}

// P10.1: what is joined from the right, near 1,000 nodes, has no text.
func TestManyNodesFromTheRight(t *testing.T) {
	for _, of := range []func(a, b int) api.Node{cat, alt} {
		re := row(500, set('a'), of)
		for i := 1; i < 500; i++ {
			last := 499
			if i > 1 {
				last = 498 + i
			}
			re.Nodes[499+i] = of(499-i, last)
		}
		if !tree.Right(re) {
			t.Fatal(treeText(re))
		}
		has(t, neither, re)
	}
}

// eachTree hands over all trees of up to most nodes, of these leaves and all that is made of them, with so many groups.
func eachTree(leaves []api.Node, groups, most int, do func(api.Re)) {
	var nodes []api.Node
	free := []int{}
	var grow func(left int)
	put := func(n api.Node, rest []int) {
		before := free
		free = append(slices.Clone(rest), len(nodes))
		nodes = append(nodes, n)
		if re := reOf(groups, nodes...); tree.Right(re) {
			do(re)
		}
		grow(most - len(nodes))
		nodes = nodes[:len(nodes)-1]
		free = before
	}
	without := func(l []int, x int) []int {
		return slices.DeleteFunc(slices.Clone(l), func(y int) bool { return x == y })
	}
	grow = func(left int) {
		if left == 0 || len(free)-1 > left {
			return
		}
		for _, n := range leaves {
			put(n, free)
		}
		for g := 1; g <= groups; g++ {
			put(back(g), free)
		}
		for _, a := range slices.Clone(free) {
			put(star(a), without(free, a))
			for g := 1; g <= groups; g++ {
				put(group(g, a), without(free, a))
			}
			for _, b := range without(free, a) {
				put(cat(a, b), without(without(free, a), b))
				put(alt(a, b), without(without(free, a), b))
			}
		}
	}
	grow(most)
}

// P10.1 and P10.2: all small trees: which of them have a text is told by the chapters' words, and what is told is parsed to just that tree.
func TestSmallTrees(t *testing.T) {
	all, basic, extended := 0, 0, 0
	each := func(re api.Re) {
		all++
		b, e := likeModel(t, re)
		if b {
			basic++
		}
		if e {
			extended++
		}
	}
	eachTree([]api.Node{empty(), set('a'), set('*'), bol(), eol()}, 0, 6, each)
	eachTree([]api.Node{set('a')}, 0, 8, each)
	eachTree([]api.Node{empty(), set('a'), bol(), eol()}, 1, 6, each)
	eachTree([]api.Node{empty(), set('a')}, 2, 6, each)
	if all < 200000 || basic < 500 || extended < 2000 {
		t.Error(all, basic, extended)
	}
}

// someTree is a tree whose nodes a builder was told, parts by parts: from the left and as a parser puts them if inOrder, else as it comes.
func someTree(r *numbers, inOrder bool) api.Re {
	const signs = "ab*+?{|()$^\\.[]\n"
	var b tree.Builder
	var whole func(deep int) int
	atom := func(deep int) int {
		if g := -1; deep > 0 && r.Intn(4) == 0 {
			if g = b.Open(); g > 0 {
				return b.Group(g, whole(deep-1))
			}
		}
		if n := b.Back(1 + r.Intn(9)); r.Intn(6) == 0 && n >= 0 {
			return n
		}
		return b.Set(class.Of(signs[r.Intn(len(signs))]))
	}
	piece := func(deep int) int {
		switch r.Intn(12) {
		case 0:
			return b.Bol()
		case 1:
			return b.Eol()
		}
		n := atom(deep)
		for r.Intn(3) == 0 {
			lo := r.Intn(4)
			n = b.Rep(n, lo, []int{-1, lo, 9}[r.Intn(3)])
		}
		return n
	}
	join := func(all func(...int) int, l []int) int {
		if !inOrder && len(l) > 1 {
			i := r.Intn(len(l) - 1)
			l[i], l[i+1] = l[i+1], l[i]
		}
		return all(l...)
	}
	branch := func(deep int) int {
		var l []int
		for range 1 + r.Intn(4) {
			l = append(l, piece(deep))
		}
		return join(b.Cat, l)
	}
	whole = func(deep int) int {
		var l []int
		for range 1 + r.Intn(2)*r.Intn(3) {
			l = append(l, branch(deep))
		}
		return join(b.Alt, l)
	}
	re, _ := b.Re(whole(3))
	return re
}

// P10.1 and P10.2: greater trees that seem to have no order.
func TestSomeTrees(t *testing.T) {
	r := numbers(1010)
	right, basic, extended, none := 0, 0, 0, 0
	for i := range 60000 {
		re := someTree(&r, i%4 > 0)
		if tree.Right(re) {
			right++
		}
		b, e := likeModel(t, re)
		if b {
			basic++
		}
		if e {
			extended++
		}
		if !b && !e {
			none++
		}
	}
	if right < 10000 || basic < 1000 || extended < 5000 || none < 1000 {
		t.Error(right, basic, extended, none)
	}
}

// P10.1: of a tree that has a text, one with a node or a number changed is held against the chapters' words.
func TestChangedTrees(t *testing.T) {
	r := numbers(99)
	has, none := 0, 0
	for _, x := range []struct {
		b        string
		extended bool
	}{{`^\(a*\(b\)\2\)c\1$`, false}, {"(a|b(c)\\2|^d$)*e+|f", true}, {"abcdef", true}, {"a|b|c|d", true}, {`\(\)\(\(x\)*\)`, false}} {
		re, _, e := retext.Parse([]byte(x.b), x.extended)
		if e != api.OK {
			t.Fatalf("%q: %v", x.b, e)
		}
		for range 20000 {
			other := reOf(re.Groups, slices.Clone(re.Nodes)...)
			for range 1 + r.Intn(2) {
				n := &other.Nodes[r.Intn(len(other.Nodes))]
				switch r.Intn(7) {
				case 0:
					n.A = r.Intn(len(other.Nodes)) - 1
				case 1:
					n.B = r.Intn(len(other.Nodes)) - 1
				case 2:
					n.A, n.B = n.B, n.A
				case 3:
					n.Group = r.Intn(4)
				case 4:
					m := &other.Nodes[r.Intn(len(other.Nodes))]
					*n, *m = *m, *n
				case 5:
					n.Kind = r.Intn(9)
				case 6:
					n.Lo, n.Hi = r.Intn(3), r.Intn(4)-1
				}
			}
			if b, e := likeModel(t, other); b || e {
				has++
			} else {
				none++
			}
		}
	}
	if has < 1000 || none < 10000 {
		t.Error(has, none)
	}
}

// P10.2: what either Parse answers of rows of words has a text of that kind.
func TestRowsOfWords(t *testing.T) {
	r := numbers(77)
	words := strings.Fields(`a b * + ? ^ $ | . \n \. \* \[ \\ \] \( \) \( \) ( ) ( ) \{2\} \{2,\} \{2,5\} {2} {2,} {2,5} [a-c] [^]-] [[:alpha:]_] [^\n] \1 \2 \9 / , 0`)
	right := [2]int{}
	for range 150000 {
		b := ""
		for range r.Intn(9) {
			b += words[r.Intn(len(words))]
		}
		for i, extended := range both {
			if _, _, e := parse([]byte(b), extended); e == api.OK {
				returns(t, b, extended)
				right[i]++
			}
		}
	}
	if right[0] < 10000 || right[1] < 10000 {
		t.Error(right)
	}
}

// someTexts are texts of either kind.
func someTexts() []string {
	return []string{"", "a", "ab*c", "^a$", ".", `\n`, "[a-c]x", `[^]]*`, "a|b", "(a)", `\(a\)`, `\*`}
}

// R4: what is told is new memory: written over and grown, it changes neither another answer nor what was handed in.
func TestAnswersAreNew(t *testing.T) {
	for _, b := range someTexts() {
		for _, extended := range both {
			in := []byte(b + "xyz")[:len(b)]
			re, _, e := retext.Parse(in, extended)
			if e != api.OK {
				t.Fatalf("%q: %v", b, e)
			}
			nodes := slices.Clone(re.Nodes)
			one, ok := retext.Text(re, extended)
			want := string(one)
			two, _ := retext.Text(re, extended)
			for i := range one {
				one[i] = '#'
			}
			_ = append(one, "###"...)
			if three, _ := retext.Text(re, extended); !ok || string(two) != want || string(three) != want {
				t.Errorf("%q: %q, %q, want %q", b, two, three, want)
			}
			if !slices.Equal(re.Nodes, nodes) || string(in[:len(b)+3]) != b+"xyz" {
				t.Errorf("%q: %s", b, treeText(re))
			}
			for i := range in {
				in[i] = '('
			}
			if !slices.Equal(re.Nodes, nodes) {
				t.Errorf("%q: %s", b, treeText(re))
			}
			again, _, _ := retext.Parse([]byte(b), extended)
			re.Nodes[0] = eol()
			if !slices.Equal(again.Nodes, nodes) {
				t.Errorf("%q: %s", b, treeText(again))
			}
		}
	}
}

// R4: what lies behind the nodes plays no part.
func TestBehindTheNodes(t *testing.T) {
	long := []api.Node{set('a'), star(0), set('b'), cat(1, 2), eol(), empty()}
	before := slices.Clone(long)
	has(t, inBoth, reOf(0, long[:1]...))
	has(t, inBoth, reOf(0, long[:2]...))
	has(t, neither, reOf(0, long[:3]...))
	has(t, inBoth, reOf(0, long[:4]...))
	if !slices.Equal(long, before) {
		t.Error(long)
	}
}

// R6: the same call has the same answer, each time.
func TestSameAnswer(t *testing.T) {
	r := numbers(6)
	for range 500 {
		re := someTree(&r, true)
		for _, extended := range both {
			one, ok := retext.Text(re, extended)
			for range 3 {
				two, again := retext.Text(re, extended)
				if !bytes.Equal(one, two) || ok != again {
					t.Fatalf("%s: %q, %v, and %q, %v", treeText(re), one, ok, two, again)
				}
			}
		}
	}
}

// P10.2: a text that was told has itself as a text of the same tree, and the layers that read it agree.
func TestTextOfText(t *testing.T) {
	for _, b := range someTexts() {
		re, _, e := bre.Parse([]byte(b))
		text, ok := retext.Text(re, false)
		if again, _, f := bre.Parse(text); e != api.OK || f != api.OK || !ok || !tree.Same(re, again) {
			t.Errorf("%q: %q", b, text)
		}
		re, _, e = ere.Parse([]byte(b))
		text, ok = retext.Text(re, true)
		if again, _, f := ere.Parse(text); e != api.OK || f != api.OK || !ok || !tree.Same(re, again) {
			t.Errorf("%q: %q", b, text)
		}
	}
}
