package find_test

import (
	"math"
	"slices"
	"strings"
	"testing"

	"palinode/api"
	"palinode/class"
	"palinode/find"
	"palinode/retext"
	"palinode/tree"
)

// ends are numbers far below and far above all that the chapter names.
var ends = []int{math.MinInt, math.MinInt + 1, -1 << 32, -1001, -2, -1, 1 << 32, math.MaxInt - 1, math.MaxInt}

// numbers are a row of numbers that is the same each time, and seems to have no order.
type numbers uint64

// Intn tells the next number, from 0 to n - 1.
func (x *numbers) Intn(n int) int {
	*x = *x*6364136223846793005 + 1442695040888963407
	return int(*x>>33) % n
}

func reOf(groups int, nodes ...api.Node) api.Re { return api.Re{Nodes: nodes, Groups: groups} }

func empty() api.Node            { return api.Node{Kind: api.NEmpty} }
func set(l ...byte) api.Node     { return api.Node{Kind: api.NSet, Set: class.Of(l...)} }
func cat(a, b int) api.Node      { return api.Node{Kind: api.NCat, A: a, B: b} }
func alt(a, b int) api.Node      { return api.Node{Kind: api.NAlt, A: a, B: b} }
func rep(a, lo, hi int) api.Node { return api.Node{Kind: api.NRep, A: a, Lo: lo, Hi: hi} }
func star(a int) api.Node        { return rep(a, 0, api.Unbounded) }
func group(g, a int) api.Node    { return api.Node{Kind: api.NGroup, A: a, Group: g} }
func back(g int) api.Node        { return api.Node{Kind: api.NBack, Group: g} }
func bol() api.Node              { return api.Node{Kind: api.NBol} }
func eol() api.Node              { return api.Node{Kind: api.NEol} }

// hitOf is a hit whose span 0 is that, and whose groups from 1 on are those; the others have none.
func hitOf(from, to int, groups ...api.Span) api.Hit {
	var hit api.Hit
	for g := range hit.Spans {
		hit.Spans[g] = api.Span{From: -1, To: -1}
	}
	hit.Spans[0] = api.Span{From: from, To: to}
	copy(hit.Spans[1:], groups)
	return hit
}

// parsed is the tree of an extended text, or, if it begins with BRE: , of the basic one behind that.
func parsed(t *testing.T, b string) api.Re {
	t.Helper()
	basic, isBasic := strings.CutPrefix(b, "BRE:")
	re, at, e := retext.Parse([]byte(basic), !isBasic)
	if e != api.OK {
		t.Fatalf("%q: %d, %v", b, at, e)
	}
	return re
}

// firstTells asks that from that place on this is the first match, as hitText tells it, for just that cost.
func firstTells(t *testing.T, re api.Re, text string, from int, want string, cost int) {
	t.Helper()
	hit, ok, modelCost := firstLikeModel(t, re, []byte(text), from)
	if got := hitText(hit, ok); got != want || modelCost != cost {
		t.Errorf("%s, %.99q, from %d: %q for %d; want %q for %d", short(re), text, from, got, modelCost, want, cost)
	}
}

// allTell asks that these are all matches, as allText tells them, for just that cost.
func allTell(t *testing.T, re api.Re, text string, want string, cost int) {
	t.Helper()
	l, modelCost := allLikeModel(t, re, []byte(text))
	if got := allText(l); got != want || modelCost != cost {
		t.Errorf("%s, %.99q: %q for %d; want %q for %d", short(re), text, got, modelCost, want, cost)
	}
}

// firstFails asks First for an error, with all zeros beside it.
func firstFails(t *testing.T, re api.Re, text []byte, from, fuel int, e api.Errno) {
	t.Helper()
	firstIs(t, re, text, from, fuel, api.Hit{}, false, 0, e)
}

// allFail asks All for an error, with all zeros beside it.
func allFail(t *testing.T, re api.Re, text []byte, fuel int, e api.Errno) {
	t.Helper()
	allAre(t, re, text, fuel, nil, 0, e)
}

// P12.2: the chapter's example.
func TestExample(t *testing.T) {
	allTell(t, parsed(t, "a*"), "baac", "0-0, 1-3, 4-4", 12) // 2 at the b, 6 at the a, 2 at the c and at the end
	allTell(t, reOf(0, set('a'), star(0)), "", "0-0", 2)
}

// P12.1: the first match is at the first place tried, at a later one, at the last one, or nowhere; all places tried up to it cost.
func TestFirstPlaces(t *testing.T) {
	ab := parsed(t, "ab") // 3 where an a stands, 2 elsewhere
	for _, x := range []struct {
		text string
		from int
		want string
		cost int
	}{
		{"abxx", 0, "0-2", 3},
		{"xabx", 0, "1-3", 5},
		{"xxab", 0, "2-4", 7},
		{"xxab", 1, "2-4", 5},
		{"xxab", 2, "2-4", 3},
		{"xxab", 3, "no", 0},
		{"xxab", 4, "no", 0},
		{"xxxx", 0, "no", 6},
		{"xxxx", 1, "no", 4},
		{"aaab", 0, "2-4", 9},
		{"aaaa", 0, "no", 9},
		{"aaaa", 2, "no", 3},
		{"abab", 0, "0-2", 3},
		{"abab", 1, "2-4", 5},
		{"abab", 2, "2-4", 3},
		{"abab", 3, "no", 0},
		{"b", 0, "no", 0},
		{"b", 1, "no", 0},
		{"", 0, "no", 0},
	} {
		firstTells(t, ab, x.text, x.from, x.want, x.cost)
	}
}

// P12.1: places at which fewer bytes are left than Least aren't tried, and cost nothing: fewer, just as many, more.
func TestLeast(t *testing.T) {
	for _, x := range []struct {
		re    string
		text  string
		from  int
		want  string
		cost  int
		least int
	}{
		{"a{3}", "", 0, "no", 0, 3},
		{"a{3}", "aa", 0, "no", 0, 3},
		{"a{3}", "aaa", 0, "0-3", 7, 3},
		{"a{3}", "aaa", 1, "no", 0, 3},
		{"a{3}", "aaaa", 1, "1-4", 7, 3},
		{"a{3}", "bbb", 0, "no", 2, 3},
		{"a{3}", "bbbb", 0, "no", 4, 3},
		{"a{3}", "bbbb", 1, "no", 2, 3},
		{"a{3}", "bbbb", 2, "no", 0, 3},
		{"a{2,}", "a", 0, "no", 0, 2},
		{"a{2,}", "ba", 0, "no", 2, 2},
		{"ab|c", "b", 0, "no", 4, 1},
		{"ab|c", "a", 0, "no", 5, 1},
		{"ab|c", "xc", 0, "1-2", 8, 1},
		{"ab|c", "xc", 2, "no", 0, 1},
		{"(ab){2}", "aba", 0, "no", 0, 4},
		{"a?", "", 0, "0-0", 2, 0},
		{"b$", "a", 0, "no", 2, 1},
		{"^$", "a", 0, "no", 5, 0},
		{"$", "ab", 0, "2-2", 3, 0},
		{"(a)\\1", "a", 0, "no", 5, 1},
		{"(a)\\1", "ba", 0, "no", 8, 1},
		{"BRE:\\(\\)\\1", "a", 1, "1-1 1-1", 5, 0},
	} {
		re := parsed(t, x.re)
		if least := tree.Least(re); least != x.least {
			t.Errorf("%q: %d, want %d", x.re, least, x.least)
		}
		firstTells(t, re, x.text, x.from, x.want, x.cost)
	}
}

// P12.1: where the whole takes more bytes than Least tells, and where the text has about as many.
func TestGreatLeast(t *testing.T) {
	great := parsed(t, "((a{255}){255}){2}") // Least tells 65,537; it is 130,050
	if tree.Least(great) != 65537 {
		t.Error(tree.Least(great))
	}
	for length, cost := range map[int]int{65535: 0, 65536: 0, 65537: 6, 65538: 12, 65540: 24} {
		text := strings.Repeat("b", length)
		firstTells(t, great, text, 0, "no", cost)
		firstTells(t, great, text, 1, "no", max(cost-6, 0))
		allTell(t, great, text, "", cost)
	}
}

// P12.1: ^ and $ are the text's beginning and end, from whatever place on one looks.
func TestAnchors(t *testing.T) {
	for _, x := range []struct {
		re   string
		text string
		from int
		want string
	}{
		{"^a", "aa", 0, "0-1"},
		{"^a", "aa", 1, "no"},
		{"^", "aa", 0, "0-0"},
		{"^", "aa", 1, "no"},
		{"^", "aa", 2, "no"},
		{"^", "", 0, "0-0"},
		{"$", "aa", 0, "2-2"},
		{"$", "aa", 1, "2-2"},
		{"$", "aa", 2, "2-2"},
		{"a$", "aa", 0, "1-2"},
		{"a$", "aa", 2, "no"},
		{"^a*$", "aa", 0, "0-2"},
		{"^a*$", "aa", 1, "no"},
		{"^a|b", "aab", 1, "2-3"},
		{"^$", "", 0, "0-0"},
		{"^$", "\n", 0, "no"},
		{"^b", "a\nb", 0, "no"},
		{"a$", "a\nb", 0, "no"},
		{"$|a", "ba", 0, "1-2"},
		{"(^|x)a", "axa", 1, "1-3 1-2"},
	} {
		hit, ok, _ := firstLikeModel(t, parsed(t, x.re), []byte(x.text), x.from)
		if got := hitText(hit, ok); got != x.want {
			t.Errorf("%q, %q, from %d: %q, want %q", x.re, x.text, x.from, got, x.want)
		}
	}
}

// P12.1: the first place counts, not the longest match; at one place the longest is what matches; groups are told with it.
func TestFirstMatches(t *testing.T) {
	for _, x := range []struct {
		re   string
		text string
		from int
		want string
	}{
		{"a+", "xabaaa", 0, "1-2"},
		{"a+", "xabaaa", 2, "3-6"},
		{"a+", "xabaaa", 4, "4-6"},
		{"a+|b+", "abbb", 0, "0-1"},
		{"a*", "baaa", 0, "0-0"},
		{"a*", "baaa", 1, "1-4"},
		{"bcd|ab|a", "abcd", 0, "0-2"},
		{"b|abc|ab", "xabcb", 0, "1-4"},
		{"(a|ab)(c|bcd)?", "xabcd", 0, "1-5 1-2 2-5"},
		{"(a)|(b)", "xb", 0, "1-2 - 1-2"},
		{"(.)\\1", "abccb", 0, "2-4 2-3"},
		{"(.)\\1", "abccb", 3, "no"},
		{"(..)\\1", "xababab", 0, "1-5 1-3"},
		{"(..)\\1", "xababab", 2, "2-6 2-4"},
		{"(a*)b\\1", "aaba", 0, "1-4 1-2"},
		{"(.)(.)(.)(.)(.)(.)(.)(.)(.)", "xabcdefghi", 1, "1-10 1-2 2-3 3-4 4-5 5-6 6-7 7-8 8-9 9-10"},
		{"[^a]", "a\x00", 0, "1-2"},
		{"\\n", "ab\ncd", 0, "2-3"},
	} {
		hit, ok, _ := firstLikeModel(t, parsed(t, x.re), []byte(x.text), x.from)
		if got := hitText(hit, ok); got != x.want {
			t.Errorf("%q, %q, from %d: %q, want %q", x.re, x.text, x.from, got, x.want)
		}
	}
}

// P12.2: all matches: none, one, many; one behind the other, with bytes between and without.
func TestAllMatches(t *testing.T) {
	for _, x := range []struct{ re, text, want string }{
		{"x", "ab", ""},
		{"x", "", ""},
		{"a", "a", "0-1"},
		{"a", "xax", "1-2"},
		{"a", "aXa", "0-1, 2-3"},
		{"a", "aaa", "0-1, 1-2, 2-3"},
		{"ab", "ababab", "0-2, 2-4, 4-6"},
		{"aa", "aaaaa", "0-2, 2-4"},
		{"aba", "ababa", "0-3"},
		{"a+", "aabaaab", "0-2, 3-6"},
		{"a|ab", "abaab", "0-2, 2-3, 3-5"},
		{"^a", "aa", "0-1"},
		{"^a*", "aab", "0-2"},
		{"a$", "aa", "1-2"},
		{"^", "ab", "0-0"},
		{"$", "ab", "2-2"},
		{"^|$", "ab", "0-0, 2-2"},
		{"^|$", "", "0-0"},
		{"^$", "", "0-0"},
		{"^$", "a", ""},
		{"(a)(b)?", "abaab", "0-2 0-1 1-2, 2-3 2-3, 3-5 3-4 4-5"},
		{"(a)|(b)", "abc", "0-1 0-1, 1-2 - 1-2"},
		{"(.)\\1", "aabccc", "0-2 0-1, 3-5 3-4"},
		{"(a*)b", "aabb", "0-3 0-2, 3-4 3-3"},
		{"(a|b)*", "abcb", "0-2 1-2, 3-4 3-4"},
		{"\\n", "a\n\nb", "1-2, 2-3"},
	} {
		l, _ := allLikeModel(t, parsed(t, x.re), []byte(x.text))
		if got := allText(l); got != x.want {
			t.Errorf("%q, %q: %q, want %q", x.re, x.text, got, x.want)
		}
	}
}

// P12.2 and P12.3: matches that take no byte: at each place, between others, at the end; where the match ahead ended none is, but one that takes bytes is.
func TestMatchesOfNothing(t *testing.T) {
	for _, x := range []struct{ re, text, want string }{
		{"", "", "0-0"},
		{"", "a", "0-0, 1-1"},
		{"", "ab", "0-0, 1-1, 2-2"},
		{"BRE:\\(\\)", "ab", "0-0 0-0, 1-1 1-1, 2-2 2-2"},
		{"BRE:\\(\\)\\1", "a", "0-0 0-0, 1-1 1-1"},
		{"a*", "", "0-0"},
		{"a*", "a", "0-1"}, // the one at the end begins where the match ahead ended
		{"a*", "aa", "0-2"},
		{"a*", "b", "0-0, 1-1"},
		{"a*", "ab", "0-1, 2-2"}, // none at 1
		{"a*", "ba", "0-0, 1-2"}, // behind one that took no byte, at 1, one that takes bytes
		{"a*", "aba", "0-1, 2-3"},
		{"a*", "abba", "0-1, 2-2, 3-4"},
		{"a*", "abbba", "0-1, 2-2, 3-3, 4-5"},
		{"a?", "aab", "0-1, 1-2, 3-3"},
		{"a?", "aa", "0-1, 1-2"},
		{"b*", "abc", "0-0, 1-2, 3-3"},
		{"x*", "abc", "0-0, 1-1, 2-2, 3-3"},
		{"(ab)?", "abab", "0-2 0-2, 2-4 2-4"},
		{"(ab)?", "aab", "0-0, 1-3 1-3"},
		{"(ab)?", "aba", "0-2 0-2, 3-3"},
		{"(ab)*", "xababxab", "0-0, 1-5 3-5, 6-8 6-8"},
		{"(ab)*", "xabxxab", "0-0, 1-3 1-3, 4-4, 5-7 5-7"},
		{"a|$", "aa", "0-1, 1-2"},
		{"a|$", "ab", "0-1, 2-2"},
		{"a|$", "ba", "1-2"},
		{"^|a", "aa", "0-1, 1-2"},
		{"^|b", "ab", "0-0, 1-2"},
		{"^|b", "b", "0-1"},
		{"a*|b", "ab", "0-1, 1-2"},
		{"a*|b", "abc", "0-1, 1-2, 3-3"},
		{"(a*)(b*)", "abcab", "0-2 0-1 1-2, 3-5 3-4 4-5"},
		{"(a*)(b*)", "c", "0-0 0-0 0-0, 1-1 1-1 1-1"},
	} {
		l, _ := allLikeModel(t, parsed(t, x.re), []byte(x.text))
		if got := allText(l); got != x.want {
			t.Errorf("%q, %q: %q, want %q", x.re, x.text, got, x.want)
		}
	}
}

// P12.2: what all matches cost: each place that is tried, also where what matches isn't a match; bytes that are looked at twice cost twice.
func TestAllCost(t *testing.T) {
	a := parsed(t, "a")
	allTell(t, a, "", "", 0)
	allTell(t, a, "b", "", 1)
	allTell(t, a, "aba", "0-1, 2-3", 3)
	ab := parsed(t, "ab") // 3 where an a stands, 2 elsewhere; not at the last byte
	allTell(t, ab, "a", "", 0)
	allTell(t, ab, "abab", "0-2, 2-4", 6)
	allTell(t, ab, "aabb", "1-3", 6)
	allTell(t, ab, "xabxab", "1-3, 4-6", 10)
	allTell(t, ab, "abxx", "0-2", 5)
	some := parsed(t, "a*") // 2 and 2 for each a
	allTell(t, some, "a", "0-1", 6)
	allTell(t, some, "aa", "0-2", 8)
	allTell(t, some, "ab", "0-1, 2-2", 8)
	allTell(t, some, "abba", "0-1, 2-2, 3-4", 14)
	again := parsed(t, "a*b|a") // each a that is left over is looked at again
	allTell(t, again, "aa", "0-1, 1-2", 21)
	allTell(t, again, "aab", "0-3", 12)
	allTell(t, parsed(t, "^"), "abc", "0-0", 4)
	allTell(t, parsed(t, "$"), "abc", "3-3", 4)
	allTell(t, parsed(t, ""), "abc", "0-0, 1-1, 2-2, 3-3", 4)
}

// P12.2: too little fuel, at each number below what it costs, also behind matches that were found: nothing is told beside the error.
func TestEachFuel(t *testing.T) {
	for _, x := range []struct{ re, text string }{{"a*", "abba"}, {"a|ab", "abaab"}, {"(.)\\1", "aabccc"}, {"x", "abc"}, {"", "ab"}, {"(a*)*b", "aaaac"}, {"a$", "aa"}} {
		re, text := parsed(t, x.re), []byte(x.text)
		l, cost := allLikeModel(t, re, text)
		for fuel := range cost {
			allFail(t, re, text, fuel, api.ErrFuel)
		}
		for _, more := range []int{0, 1, 5, 1000, api.MaxFuel, 1 << 40, math.MaxInt - cost} {
			allAre(t, re, text, cost+more, l, more, api.OK)
		}
		for from := range len(text) + 1 {
			hit, ok, cost := firstLikeModel(t, re, text, from)
			for fuel := range cost {
				firstFails(t, re, text, from, fuel, api.ErrFuel)
			}
			for _, more := range []int{0, 1, 5, 1000, api.MaxFuel, 1 << 40, math.MaxInt - cost} {
				firstIs(t, re, text, from, cost+more, hit, ok, more, api.OK)
			}
		}
	}
}

// P12.1 and P12.2: hits are told whole: groups that have none, and numbers above the groups, are From -1 and To -1; without a match all is zeros.
func TestWholeHits(t *testing.T) {
	re := parsed(t, "(a)|(b)")
	firstIs(t, re, []byte("xb"), 0, 100, hitOf(1, 2, api.Span{From: -1, To: -1}, api.Span{From: 1, To: 2}), true, 89, api.OK)
	firstIs(t, re, []byte("xc"), 0, 100, api.Hit{}, false, 90, api.OK)
	firstIs(t, re, []byte("xb"), 2, 100, api.Hit{}, false, 100, api.OK)
	allAre(t, re, []byte("ab"), 100, []api.Hit{hitOf(0, 1, api.Span{From: 0, To: 1}), hitOf(1, 2, api.Span{From: -1, To: -1}, api.Span{From: 1, To: 2})}, 88, api.OK)
	allAre(t, re, []byte("x"), 100, nil, 95, api.OK)
	allAre(t, re, nil, 100, nil, 100, api.OK)
	allAre(t, parsed(t, "x*"), []byte("a"), 100, []api.Hit{hitOf(0, 0), hitOf(1, 1)}, 96, api.OK)
}

// P12.1 and P12.2: a text that is nil and one that is empty are the same.
func TestNoText(t *testing.T) {
	for _, text := range [][]byte{nil, {}, []byte("a")[:0]} {
		for b, want := range map[string]string{"": "0-0", "a": "no", "a*": "0-0", "^$": "0-0", "(a*)$": "0-0 0-0", "(a)*": "0-0"} {
			re := parsed(t, b)
			hit, ok, _ := firstLikeModel(t, re, text, 0)
			if got := hitText(hit, ok); got != want {
				t.Errorf("%q: %q, want %q", b, got, want)
			}
			l, _ := allLikeModel(t, re, text)
			if got := allText(l); got != strings.TrimPrefix(want, "no") {
				t.Errorf("%q: %q, want %q", b, got, want)
			}
			firstFails(t, re, text, 1, 1000, api.ErrArg)
		}
	}
}

// around is re in that many repetitions, one around the other.
func around(re api.Re, n int) api.Re {
	re = reOf(re.Groups, slices.Clone(re.Nodes)...)
	for range n {
		re.Nodes = append(re.Nodes, rep(len(re.Nodes)-1, 1, 1))
	}
	return re
}

// notRight are regular expressions that aren't right (6).
func notRight() []api.Re {
	a := set('a')
	l := []api.Re{
		{}, {Nodes: []api.Node{}}, {Groups: 1}, {Groups: 9},
		reOf(1, a), reOf(-1, a), reOf(10, a), reOf(0, a, a), reOf(0, a, group(1, 0)), reOf(2, a, group(1, 0)),
		reOf(0, back(1)), reOf(1, back(1)), reOf(1, a, group(0, 0)), reOf(1, a, group(1, 0), group(1, 1)),
		reOf(0, a, cat(0, 0)), reOf(0, a, alt(0, 0)), reOf(0, a, cat(0, 1)), reOf(0, a, alt(1, 0)), reOf(0, star(0)), reOf(1, group(1, 0)),
		reOf(0, a, rep(0, 1, 0)), reOf(0, a, rep(0, -1, 1)), reOf(0, a, rep(0, 0, 256)), reOf(0, a, rep(0, 256, 256)),
		reOf(0, a, rep(0, 256, api.Unbounded)), reOf(0, a, rep(0, 0, -2)), reOf(0, a, rep(0, -2, api.Unbounded)),
		reOf(0, api.Node{Kind: 9}), reOf(0, api.Node{Kind: -1}), reOf(0, api.Node{Kind: api.NEmpty, Lo: 1}), reOf(0, api.Node{Kind: api.NBol, A: 1}),
		reOf(0, api.Node{Kind: api.NSet, Hi: 1}), reOf(0, api.Node{Kind: api.NEol, Set: class.Of('a')}), reOf(0, api.Node{Kind: api.NEmpty, Group: 1}),
		around(reOf(0, a), 1000), around(reOf(0, a), 5000),
	}
	for _, n := range ends {
		l = append(l, reOf(0, a, cat(0, n)), reOf(0, a, cat(n, 0)), reOf(0, a, alt(0, n)), reOf(0, a, star(n)), reOf(1, a, group(1, n)),
			reOf(1, a, group(n, 0)), reOf(1, a, group(1, 0), back(n), cat(1, 2)), reOf(n, a), reOf(0, api.Node{Kind: n}))
		if n != api.Unbounded {
			l = append(l, reOf(0, a, rep(0, 0, n)))
		}
		l = append(l, reOf(0, a, rep(0, n, api.Unbounded)), reOf(0, a, rep(0, n, n)))
	}
	return l
}

// P12.1 and P12.2: ErrArg: a regular expression that isn't right, with arguments that are well and with others.
func TestNotRight(t *testing.T) {
	for _, re := range notRight() {
		if tree.Right(re) {
			t.Error(short(re))
		}
		for _, text := range [][]byte{nil, {}, []byte("a"), []byte("aaaa")} {
			for _, fuel := range []int{0, 1, 100, math.MaxInt, -1} {
				firstFails(t, re, text, 0, fuel, api.ErrArg)
				firstFails(t, re, text, len(text), fuel, api.ErrArg)
				firstFails(t, re, text, -1, fuel, api.ErrArg)
				firstFails(t, re, text, len(text)+1, fuel, api.ErrArg)
				allFail(t, re, text, fuel, api.ErrArg)
			}
		}
	}
}

// P12.1 and P12.2: ErrArg: a place below 0 and above the text's end, and fuel below 0, also where no place would be tried; ErrFuel is looked for behind these.
func TestWrongNumbers(t *testing.T) {
	for _, b := range []string{"", "a", "a*", "(a)|b", "^$", "a{100}"} {
		re := parsed(t, b)
		for _, text := range []string{"", "a", "aab"} {
			for _, from := range append([]int{len(text) + 1, len(text) + 2}, ends...) {
				for _, fuel := range append([]int{0, 1, 100}, ends...) {
					firstFails(t, re, []byte(text), from, fuel, api.ErrArg)
				}
			}
			for _, fuel := range ends {
				if fuel < 0 {
					allFail(t, re, []byte(text), fuel, api.ErrArg)
					for from := range len(text) + 1 {
						firstFails(t, re, []byte(text), from, fuel, api.ErrArg)
					}
				}
			}
		}
	}
}

// eachText hands over all texts of up to most of these bytes.
func eachText(signs string, most int, do func(string)) {
	l := []string{""}
	for range most + 1 {
		var longer []string
		for _, b := range l {
			do(b)
			for _, c := range signs {
				longer = append(longer, b+string(c))
			}
		}
		l = longer
	}
}

// P12.1 and P12.2: many regular expressions, over all short texts, from each place on: as the model tells.
func TestShortTexts(t *testing.T) {
	found, none, ofNothing := 0, 0, 0
	for _, b := range []string{
		"", "a", "b", "a*", "a+", "a?", "ab", "a|b", "ab|ba", "a*b*", "(a*)(b*)", "(ab)*", "(a|ab)(b|ba)?", "^a", "a$", "^", "$", "^|$", "^$",
		"a{2}", "a{2,3}", "(a|b){2}", "(a)\\1", "(a*)\\1", "(.)\\1", "(.*)b\\1", "a|$", "b|^", "a?b{0}c*|b",
	} {
		re := parsed(t, b)
		eachText("abc", 6, func(text string) {
			l, _ := allLikeModel(t, re, []byte(text))
			for _, hit := range l {
				found++
				if tookNothing(hit) {
					ofNothing++
				}
			}
			for from := range len(text) + 1 {
				if _, ok, _ := firstLikeModel(t, re, []byte(text), from); !ok {
					none++
				}
			}
		})
	}
	if found < 10000 || none < 10000 || ofNothing < 10000 {
		t.Error(found, none, ofNothing)
	}
}

// someTree is a right tree whose nodes are put as it comes.
func someTree(r *numbers) api.Re {
	var b tree.Builder
	var free []int
	part := func() int {
		i := r.Intn(len(free))
		n := free[i]
		free = slices.Delete(free, i, i+1)
		return n
	}
	leaf := func() {
		leaves := []func() int{b.Empty, b.Bol, b.Eol, func() int { return b.Set(class.Of('a')) }, func() int { return b.Set(class.Of('b')) }, func() int { return b.Set(class.Of('a', 'b')) }}
		free = append(free, leaves[(r.Intn(9)+3)%len(leaves)]())
	}
	join := func() {
		if r.Intn(3) == 0 {
			free = append(free, b.Alt(part(), part()))
		} else {
			free = append(free, b.Cat(part(), part()))
		}
	}
	leaf()
	for range 1 + r.Intn(10) {
		switch k := r.Intn(8); {
		case k < 3 && len(free) > 1:
			join()
		case k == 3:
			lo := r.Intn(3)
			free = append(free, b.Rep(part(), lo, []int{api.Unbounded, lo, lo + 1}[r.Intn(3)]))
		case k == 4:
			if g := b.Open(); g > 0 {
				free = append(free, b.Group(g, part()))
			}
		case k == 5:
			if g := b.Back(1); g > 0 {
				free = append(free, g)
			}
		default:
			leaf()
		}
	}
	for len(free) > 1 {
		join()
	}
	re, _ := b.Re(free[0])
	return re
}

// someText is a text of up to most bytes.
func someText(r *numbers, most int) []byte {
	text := make([]byte, r.Intn(most+1))
	for i := range text {
		text[i] = "aaabbc"[r.Intn(6)]
	}
	return text
}

// P12.1 to P12.3: trees and texts that seem to have no order: as the model tells, and each match behind the one ahead of it.
func TestSomeTrees(t *testing.T) {
	r := numbers(1212)
	matched, none, many := 0, 0, 0
	for range 30000 {
		re, text := someTree(&r), someText(&r, 14)
		if !tree.Right(re) {
			t.Fatal(short(re))
		}
		firstLikeModel(t, re, text, r.Intn(len(text)+1))
		l, _ := allLikeModel(t, re, text)
		ordered(t, re, text, l)
		switch {
		case len(l) == 0:
			none++
		case len(l) > 3:
			many++
		default:
			matched++
		}
	}
	if matched < 3000 || none < 3000 || many < 3000 {
		t.Error(matched, none, many)
	}
}

// ordered asks that each match begins where the one ahead of it ended, or behind it, and that no two that take no byte are at one place.
func ordered(t *testing.T, re api.Re, text []byte, l []api.Hit) {
	t.Helper()
	ended, nothing := 0, -1
	for _, hit := range l {
		s := hit.Spans[0]
		if s.From < ended || s.To < s.From || s.To > len(text) || s.From == s.To && s.From == nothing {
			t.Fatalf("%s, %q: %q", short(re), text, allText(l))
		}
		ended = s.To
		if s.From == s.To {
			nothing = s.To
		}
	}
}

// P12.3: of matches of what may take no byte.
func TestOrder(t *testing.T) {
	for _, b := range []string{"", "a*", "a?", "(ab)?", "a*|b", "^|a|$", "(a|b)*", "(^a)?b*", "BRE:\\(\\)*", "(a*)\\1"} {
		re := parsed(t, b)
		eachText("ab", 8, func(text string) {
			l, left, e := find.All(re, []byte(text), 1<<20)
			if e != api.OK || left >= 1<<20 {
				t.Fatalf("%q, %q: %d, %v", b, text, left, e)
			}
			ordered(t, re, []byte(text), l)
		})
	}
}

// P12.1 and P12.2: a node or a number of a right tree is changed: ErrArg, just if what comes of it isn't right.
func TestChangedTrees(t *testing.T) {
	r := numbers(1213)
	right, wrong := 0, 0
	for range 30000 {
		re, text := someTree(&r), someText(&r, 5)
		n := &re.Nodes[r.Intn(len(re.Nodes))]
		number := []int{-1, 0, 1, 2, len(re.Nodes) - 1, len(re.Nodes), 255, 256, ends[r.Intn(len(ends))]}[r.Intn(9)]
		switch r.Intn(7) {
		case 0:
			n.A = number
		case 1:
			n.B = number
		case 2:
			n.Lo = number
		case 3:
			n.Hi = number
		case 4:
			n.Group = number
		case 5:
			n.Kind = number
		case 6:
			re.Groups = number
		}
		if tree.Right(re) {
			firstLikeModel(t, re, text, 0)
			allLikeModel(t, re, text)
			right++
			continue
		}
		firstFails(t, re, text, 0, limit, api.ErrArg)
		allFail(t, re, text, limit, api.ErrArg)
		wrong++
	}
	if right < 3000 || wrong < 3000 {
		t.Error(right, wrong)
	}
}

// P12.1 and P12.2: long texts: many places, and many matches.
func TestLongTexts(t *testing.T) {
	const n = 65536
	text := []byte(strings.Repeat("b", n-1) + "a")
	firstCosts(t, reOf(0, set('a')), text, 0, hitOf(n-1, n), true, n)
	allCost(t, reOf(0, set('a')), text, []api.Hit{hitOf(n-1, n)}, n)
	var bytes, places []api.Hit
	for i := range n {
		bytes = append(bytes, hitOf(i, i+1))
		places = append(places, hitOf(i, i))
	}
	places = append(places, hitOf(n, n))
	allCost(t, reOf(0, set('a', 'b')), text, bytes, n)
	allCost(t, reOf(0, empty()), text, places, n+1)
	allCost(t, reOf(0, set('a', 'b'), star(0)), text, []api.Hit{hitOf(0, n)}, 2+2*n+2) // at the end nothing is tried again but it
	firstCosts(t, reOf(0, eol()), text, 0, hitOf(n, n), true, n+1)
	allCost(t, reOf(0, bol()), text, []api.Hit{hitOf(0, 0)}, n+1)
}

// P1: where the ways are beyond counting, the fuel ends them.
func TestManyWays(t *testing.T) {
	text := []byte(strings.Repeat("a", 65536))
	for _, b := range []string{"((a*)*)*b", "(a|a)*b", "(a|aa)*b", "(a*){255}b", "(a*)(a*)(a*)(a*)(a*)\\1b"} {
		re := parsed(t, b)
		for _, fuel := range []int{0, 1, 2, 1000, 65536, 200000} {
			firstFails(t, re, text, 0, fuel, api.ErrFuel)
			firstFails(t, re, text, 65536-100, min(fuel, 1000), api.ErrFuel)
			allFail(t, re, text, fuel, api.ErrFuel)
		}
	}
}

// R4: what is handed in stays as it was, and what lies behind the text's end and behind the nodes plays no part; an answer may be written over.
func TestArgumentsStay(t *testing.T) {
	nodes := []api.Node{set('a'), star(0), eol(), cat(1, 2), back(9)}
	before := slices.Clone(nodes)
	text := []byte("baaab")
	for length := range 5 {
		l, _ := allLikeModel(t, api.Re{Nodes: nodes[:2]}, text[:length])
		want := []string{"0-0", "0-0, 1-1", "0-0, 1-2", "0-0, 1-3", "0-0, 1-4"}[length]
		if got := allText(l); got != want {
			t.Errorf("%d: %q, want %q", length, got, want)
		}
		hit, ok, _ := firstLikeModel(t, api.Re{Nodes: nodes[:4]}, text[:length], min(length, 1))
		want = []string{"0-0", "1-1", "1-2", "1-3", "1-4"}[length]
		if got := hitText(hit, ok); got != want {
			t.Errorf("%d: %q, want %q", length, got, want)
		}
	}
	firstFails(t, api.Re{Nodes: nodes[:5]}, text, 0, 1000, api.ErrArg)
	allFail(t, api.Re{Nodes: nodes[:5]}, text, 1000, api.ErrArg)
	if string(text) != "baaab" || !slices.Equal(nodes, before) {
		t.Error(string(text), nodes)
	}
	l, _, _ := find.All(parsed(t, "a"), text, 1000)
	again, _, _ := find.All(parsed(t, "a"), text, 1000)
	for i := range l {
		l[i] = api.Hit{}
	}
	_ = append(l[:cap(l)], api.Hit{})
	if got := allText(again); got != "1-2, 2-3, 3-4" || string(text) != "baaab" {
		t.Errorf("%q, %q", got, text)
	}
	r := numbers(4)
	for range 1000 {
		re, text := someTree(&r), someText(&r, 6)
		nodes, bytes := slices.Clone(re.Nodes), string(text)
		find.First(re, text, r.Intn(len(text)+1), r.Intn(300))
		find.All(re, text, r.Intn(300))
		if !slices.Equal(re.Nodes, nodes) || string(text) != bytes {
			t.Fatalf("%s, %q: %s, %q", short(reOf(re.Groups, nodes...)), bytes, short(re), text)
		}
	}
}

// R6: the same call has the same answer, each time, whatever was asked between.
func TestSameAnswer(t *testing.T) {
	type answer struct {
		hit   api.Hit
		ok    bool
		all   string
		left  [2]int
		error [2]api.Errno
	}
	ask := func() []answer {
		r := numbers(6)
		var l []answer
		for range 2000 {
			re, text := someTree(&r), someText(&r, 8)
			var a answer
			var all []api.Hit
			a.hit, a.ok, a.left[0], a.error[0] = find.First(re, text, r.Intn(len(text)+1), r.Intn(200))
			all, a.left[1], a.error[1] = find.All(re, text, r.Intn(400))
			a.all = allText(all)
			l = append(l, a)
		}
		return l
	}
	if !slices.Equal(ask(), ask()) {
		t.Error("another answer")
	}
}
