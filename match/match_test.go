package match_test

import (
	"math"
	"slices"
	"strconv"
	"strings"
	"testing"

	"palinode/api"
	"palinode/class"
	"palinode/match"
	"palinode/retext"
	"palinode/tree"
)

// ends are numbers far below and far above all that the chapter names.
var ends = []int{math.MinInt, math.MinInt + 1, -1 << 32, -1001, -2, -1, 1 << 32, math.MaxInt - 1, math.MaxInt}

// numbers are a row of numbers that is the same each time, and seems to have no order.
type numbers uint64

// Intn tells the next number, from 0 to n - 1.
func (x *numbers) Intn(n int) int {
	*x = *x*6364136223846793005 + 1442695040888963407
	return int(*x>>33) % n
}

func reOf(groups int, nodes ...api.Node) api.Re { return api.Re{Nodes: nodes, Groups: groups} }

func empty() api.Node            { return api.Node{Kind: api.NEmpty} }
func set(l ...byte) api.Node     { return setOf(class.Of(l...)) }
func setOf(s api.Set) api.Node   { return api.Node{Kind: api.NSet, Set: s} }
func cat(a, b int) api.Node      { return api.Node{Kind: api.NCat, A: a, B: b} }
func alt(a, b int) api.Node      { return api.Node{Kind: api.NAlt, A: a, B: b} }
func rep(a, lo, hi int) api.Node { return api.Node{Kind: api.NRep, A: a, Lo: lo, Hi: hi} }
func star(a int) api.Node        { return rep(a, 0, api.Unbounded) }
func group(g, a int) api.Node    { return api.Node{Kind: api.NGroup, A: a, Group: g} }
func back(g int) api.Node        { return api.Node{Kind: api.NBack, Group: g} }
func bol() api.Node              { return api.Node{Kind: api.NBol} }
func eol() api.Node              { return api.Node{Kind: api.NEol} }

// parsed is the tree of an extended text, or, if it begins with BRE: , of the basic one behind that.
func parsed(t *testing.T, b string) api.Re {
	t.Helper()
	basic, isBasic := strings.CutPrefix(b, "BRE:")
	re, at, e := retext.Parse([]byte(basic), !isBasic)
	if e != api.OK {
		t.Fatalf("%q: %d, %v", b, at, e)
	}
	return re
}

// tells asks that at the place this matches, as hitText tells it, for just that cost, and that the model tells the same.
func tells(t *testing.T, re api.Re, text string, at int, want string, cost int) {
	t.Helper()
	hit, ok, modelCost := likeModel(t, re, text, at)
	if got := hitText(hit, ok); got != want || modelCost != cost {
		t.Errorf("%s, %.99q, at %d: %q for %d; want %q for %d", short(re), text, at, got, modelCost, want, cost)
	}
}

// spanText tells a span as hitText does.
func spanText(from, to int) string { return strconv.Itoa(from) + "-" + strconv.Itoa(to) }

// A trial is a regular expression's text, a text and a place, and what matches there.
type trial struct {
	re   string
	text string
	at   int
	want string
}

// likeTrials asks for what each trial wants; what it costs is asked of the model.
func likeTrials(t *testing.T, l []trial) {
	t.Helper()
	for _, x := range l {
		re := parsed(t, x.re)
		hit, ok, _ := likeModel(t, re, x.text, x.at)
		if got := hitText(hit, ok); got != x.want {
			t.Errorf("%q, %q, at %d: %q, want %q", x.re, x.text, x.at, got, x.want)
		}
	}
}

// P11.1: the chapter's example, and other places of that text.
func TestExample(t *testing.T) {
	re := reOf(0, set('a'), star(0))
	tells(t, re, "aab", 0, "0-2", 6)
	tells(t, re, "aab", 1, "1-2", 4)
	tells(t, re, "aab", 2, "2-2", 2)
	tells(t, re, "aab", 3, "3-3", 2)
	likeTrials(t, []trial{{"a*", "aab", 0, "0-2"}, {"BRE:a*", "aab", 2, "2-2"}, {"BRE:a", "ba", 0, "no"}, {"BRE:a", "ba", 1, "1-2"}})
}

// P11.1: each kind of node that has no part, alone: one task, whether it goes on or ends.
func TestLeaves(t *testing.T) {
	for _, x := range []struct {
		n    api.Node
		text string
		want []string
	}{
		{empty(), "", []string{"0-0"}},
		{empty(), "ab", []string{"0-0", "1-1", "2-2"}},
		{set('a'), "", []string{"no"}},
		{set('a'), "ab", []string{"0-1", "no", "no"}},
		{set('a', 'b'), "abc", []string{"0-1", "1-2", "no", "no"}},
		{set(), "ab", []string{"no", "no", "no"}},
		{setOf(class.Not(class.Of())), "\x00\n\xff", []string{"0-1", "1-2", "2-3", "no"}},
		{bol(), "", []string{"0-0"}},
		{bol(), "ab", []string{"0-0", "no", "no"}},
		{bol(), "\n\n", []string{"0-0", "no", "no"}},
		{eol(), "", []string{"0-0"}},
		{eol(), "ab", []string{"no", "no", "2-2"}},
		{eol(), "\n\n", []string{"no", "no", "2-2"}},
	} {
		for at, want := range x.want {
			tells(t, reOf(0, x.n), x.text, at, want, 1)
		}
	}
}

// P11.1: a set takes just the bytes that are in it, each of the 256.
func TestEachByte(t *testing.T) {
	all := make([]byte, 256)
	for c := range all {
		all[c] = byte(c)
	}
	text := string(all)
	for c := range 256 {
		one, others := reOf(0, set(byte(c))), reOf(0, setOf(class.Not(class.Of(byte(c)))))
		for at := range 256 {
			in, out := spanText(at, at+1), "no"
			if at != c {
				in, out = out, in
			}
			tells(t, one, text, at, in, 1)
			tells(t, others, text, at, out, 1)
		}
	}
}

// P11.1: what each kind of node with parts costs, task by task, as the table counts them.
func TestCosts(t *testing.T) {
	ab := reOf(0, set('a'), set('b'), cat(0, 1))
	tells(t, ab, "ab", 0, "0-2", 3) // the NCat, a, b
	tells(t, ab, "aa", 0, "no", 3)
	tells(t, ab, "a", 0, "no", 3)
	tells(t, ab, "b", 0, "no", 2)
	tells(t, reOf(0, set('a'), set('b'), cat(1, 0)), "ba", 0, "0-2", 3)
	either := reOf(0, set('a'), set('b'), alt(0, 1))
	for text, want := range map[string]string{"a": "0-1", "b": "0-1", "c": "no", "": "no"} {
		tells(t, either, text, 0, want, 3) // the NAlt, a, b
	}
	g := reOf(1, set('a'), group(1, 0))
	tells(t, g, "a", 0, "0-1 0-1", 3) // the NGroup, a, its end
	tells(t, g, "b", 0, "no", 2)
	tells(t, reOf(1, empty(), group(1, 0)), "ab", 1, "1-1 1-1", 3)
	twice := reOf(1, set('a'), group(1, 0), back(1), cat(1, 2))
	tells(t, twice, "aa", 0, "0-2 0-1", 5) // the NCat, the NGroup, a, its end, the NBack
	tells(t, twice, "ab", 0, "no", 5)
	tells(t, twice, "a", 0, "no", 5)
	tells(t, twice, "b", 0, "no", 3)
	tells(t, reOf(1, set('a'), group(1, 0), back(1), cat(2, 1)), "aa", 0, "no", 2) // the NCat, the NBack
	abc := func(i, j int) api.Re { return reOf(0, set('a'), set('b'), set('c'), cat(i, j), cat(3-i-j, 3)) }
	tells(t, reOf(0, set('a'), set('b'), set('c'), cat(0, 1), cat(3, 2)), "abc", 0, "0-3", 5)
	tells(t, abc(1, 2), "abc", 0, "0-3", 5)
	tells(t, reOf(0, set('a'), set('b'), set('c'), cat(0, 1), cat(3, 2)), "b", 0, "no", 3)
	tells(t, abc(1, 2), "b", 0, "no", 2)
}

// P11.1: what a repetition of a byte costs: the NRep, and for each time its a and that it ends.
func TestRepetitionCosts(t *testing.T) {
	for _, x := range []struct {
		lo, hi int
		text   string
		want   string
		cost   int
	}{
		{0, 0, "", "0-0", 1},
		{0, 0, "aa", "0-0", 1},
		{0, 1, "", "0-0", 2},
		{0, 1, "aa", "0-1", 3},
		{0, 2, "aaa", "0-2", 5},
		{0, 2, "ab", "0-1", 4},
		{0, api.Unbounded, "", "0-0", 2},
		{0, api.Unbounded, "aaa", "0-3", 8},
		{1, 1, "", "no", 2},
		{1, 1, "aa", "0-1", 3},
		{1, 2, "aaa", "0-2", 5},
		{1, 2, "ab", "0-1", 4},
		{2, 2, "aaa", "0-2", 5},
		{2, 2, "ab", "no", 4},
		{2, 4, "aaa", "0-3", 8},
		{2, 4, "aaaaa", "0-4", 9},
		{2, api.Unbounded, "aaa", "0-3", 8},
		{2, api.Unbounded, "ab", "no", 4},
		{3, api.Unbounded, "aab", "no", 6},
	} {
		tells(t, reOf(0, set('a'), rep(0, x.lo, x.hi)), x.text, 0, x.want, x.cost)
	}
}

// P11.1: a repetition of a byte takes as many as there are, up to Hi, if these are at least Lo: near the numbers' ends, too.
func TestRepetitions(t *testing.T) {
	times := []int{0, 1, 2, 3, 5, 253, 254, 255}
	for _, lo := range times {
		for _, hi := range append([]int{api.Unbounded}, times...) {
			if hi != api.Unbounded && hi < lo {
				continue
			}
			for _, there := range []int{0, 1, 2, 4, 252, 253, 254, 255, 256, 257, 600} {
				most, tried := there, there+1
				if hi != api.Unbounded && hi <= there {
					most, tried = hi, hi
				}
				want, cost := "no", 1+most+tried
				if most >= lo {
					want = spanText(0, most)
				}
				tells(t, reOf(0, set('a'), rep(0, lo, hi)), strings.Repeat("a", there), 0, want, cost)
			}
		}
	}
}

// P11.1: ^ at place 0 and elsewhere, $ at the end and elsewhere, alone, behind one another, in a group and in a repetition; a newline is a byte like others.
func TestAnchors(t *testing.T) {
	likeTrials(t, []trial{
		{"^a$", "a", 0, "0-1"},
		{"^a", "ba", 1, "no"},
		{"a$", "ab", 0, "no"},
		{"a$", "ba", 1, "1-2"},
		{"^$", "", 0, "0-0"},
		{"^$", "a", 0, "no"},
		{"^$", "a", 1, "no"},
		{"$^", "", 0, "0-0"},
		{"$^", "a", 0, "no"},
		{"^^a", "a", 0, "0-1"},
		{"a$$", "a", 0, "0-1"},
		{"a^b", "ab", 0, "no"},
		{"a$b", "ab", 0, "no"},
		{"(^)a", "a", 0, "0-1 0-0"},
		{"(^a)", "ba", 1, "no"},
		{"(a)($)", "ba", 1, "1-2 1-2 2-2"},
		{"(a$)", "ab", 0, "no"},
		{"a|^b", "ab", 1, "no"},
		{"b|^", "ab", 1, "1-2"},
		{"b|^", "ab", 0, "0-0"},
		{"(^a)*", "aa", 0, "0-1 0-1"},
		{"(^a){2}", "aa", 0, "no"},
		{"(^)*", "a", 0, "0-0"},
		{"(^)*", "a", 1, "1-1"},
		{"(^)+", "a", 0, "0-0 0-0"},
		{"(^)+", "a", 1, "no"},
		{"(^){3}", "a", 0, "0-0 0-0"},
		{"(^){0}", "a", 1, "1-1"},
		{"($)+", "a", 1, "1-1 1-1"},
		{"($)+", "a", 0, "no"},
		{"(^|a)*", "aa", 0, "0-2 1-2"},
		{"(a|$)*", "a", 0, "0-1 0-1"},
		{"(a|$){2}", "a", 0, "0-1 1-1"},
		{"a$", "a\nb", 0, "no"},
		{"^b", "a\nb", 2, "no"},
		{".", "\n", 0, "0-1"},
		{"[^a]*", "b\ncab", 0, "0-3"},
	})
}

// P11.1: a time that takes no byte ends the way above Lo, and up to Lo it goes on behind the repetition: no more times are tried.
func TestTimesThatTakeNothing(t *testing.T) {
	for _, x := range []struct {
		lo, hi int
		want   string
	}{
		{0, 0, "1-1"}, {0, 1, "1-1"}, {0, 255, "1-1"}, {0, api.Unbounded, "1-1"},
		{1, 1, "1-1 1-1"}, {1, 2, "1-1 1-1"}, {1, api.Unbounded, "1-1 1-1"},
		{2, 2, "1-1 1-1"}, {255, 255, "1-1 1-1"}, {255, api.Unbounded, "1-1 1-1"},
	} {
		cost := 5 // the NRep, the NGroup, the NEmpty, the group's end, the time's
		if x.hi == 0 {
			cost = 1
		}
		tells(t, reOf(1, empty(), group(1, 0), rep(1, x.lo, x.hi)), "ab", 1, x.want, cost)
	}
	likeTrials(t, []trial{
		{"(a*)*", "b", 0, "0-0"},
		{"(a*)*", "aa", 0, "0-2 0-2"},
		{"(a*)+", "b", 0, "0-0 0-0"},
		{"(a*)+", "aa", 0, "0-2 0-2"},
		{"(a*){2}", "aa", 0, "0-2 1-2"},
		{"(a*){2}", "a", 0, "0-1 1-1"},
		{"(a*){3}", "b", 0, "0-0 0-0"},
		{"(a?){3}b", "ab", 0, "0-2 1-1"},
		{"(a?){3}b", "aaab", 0, "0-4 2-3"},
		{"(a*|b)*", "aab", 0, "0-3 2-3"},
		{"(^|a){2}", "a", 0, "0-0 0-0"}, // behind the ^ no second time is tried, which would take the a
		{"(^|a){2}", "aa", 0, "0-2 1-2"},
		{"(^|a){2}$", "a", 0, "no"},
	})
}

// P11.1: a repetition of alternatives of which one takes no byte: what goes on behind an empty time, counted by hand.
func TestEmptyAlternative(t *testing.T) {
	of := func(lo, hi int) api.Re {
		return reOf(1, set('a'), empty(), alt(0, 1), group(1, 2), rep(3, lo, hi))
	}
	tells(t, of(0, api.Unbounded), "b", 0, "0-0", 7) // the NRep, the NGroup, the NAlt, a, nothing and its two ends, of which the second ends the way
	tells(t, of(2, 2), "b", 0, "0-0 0-0", 7)
	tells(t, of(0, api.Unbounded), "a", 0, "0-1 0-1", 15)
	tells(t, of(1, 2), "a", 0, "0-1 0-1", 15)
	tells(t, of(2, 2), "a", 0, "0-1 1-1", 15)
	tells(t, of(1, 1), "a", 0, "0-1 0-1", 9)
}

// P11.1: groups one behind the other, one within the other, such that none of the ways takes, and such that a repetition takes: the span is that of the last time, and stays where a later time doesn't take the group.
func TestGroups(t *testing.T) {
	likeTrials(t, []trial{
		{"(a)", "ba", 1, "1-2 1-2"},
		{"(ab)(c)", "xabc", 1, "1-4 1-3 3-4"},
		{"((a)(b))c", "abc", 0, "0-3 0-2 0-1 1-2"},
		{"(a(b(c)))", "abc", 0, "0-3 0-3 1-3 2-3"},
		{"(((((((((a)))))))))", "a", 0, "0-1 0-1 0-1 0-1 0-1 0-1 0-1 0-1 0-1 0-1"},
		{"(.)(.)(.)(.)(.)(.)(.)(.)(.)", "abcdefghi", 0, "0-9 0-1 1-2 2-3 3-4 4-5 5-6 6-7 7-8 8-9"},
		{"(a)|(b)", "b", 0, "0-1 - 0-1"},
		{"(a)|(b)", "a", 0, "0-1 0-1"},
		{"(a)|b(c)|d", "d", 0, "0-1"},
		{"(a)*", "b", 0, "0-0"},
		{"(a){0}b", "b", 0, "0-1"},
		{"(a)?(b)?c", "bc", 0, "0-2 - 0-1"},
		{"(a|b)*", "abab", 0, "0-4 3-4"},
		{"(a{2}){2,3}", "aaaaaaa", 0, "0-6 4-6"},
		{"(a{2}){2,3}", "aaaaa", 0, "0-4 2-4"},
		{"((a{2}){2}){2}", "aaaaaaaa", 0, "0-8 4-8 6-8"},
		{"((a{2}){2}){2}", "aaaaaaa", 0, "no"},
		{"((a)|b)*", "ab", 0, "0-2 1-2 0-1"},
		{"((a)|(b))*", "ab", 0, "0-2 1-2 0-1 1-2"},
		{"(a(b)?)*", "aba", 0, "0-3 2-3 1-2"},
		{"(a*)*b", "aab", 0, "0-3 0-2"},
		{"(a|b)*c|(a|ab)*c", "abc", 0, "0-3 1-2"},
		{"x{0}", "x", 0, "0-0"},
		{"a**", "aaa", 0, "0-3"},
		{"a{2}{2}", "aaaaa", 0, "0-4"},
		{"a{2}*", "aaaaa", 0, "0-4"},
	})
	// A group whose number is greater than that of the one within it.
	tells(t, reOf(2, set('a'), group(1, 0), set('b'), cat(1, 2), group(2, 3)), "ab", 0, "0-2 0-1 0-2", 7)
}

// P11.1: what a group took: a group that has no span yet, one that took no byte, one whose bytes stand there, and one whose bytes don't, or not all ahead of the end.
func TestBacks(t *testing.T) {
	likeTrials(t, []trial{
		{"BRE:\\(a*\\)b\\1", "aabaaa", 0, "0-5 0-2"},
		{"BRE:\\(a*\\)b\\1", "aaba", 0, "no"},
		{"BRE:\\(a*\\)b\\1", "aaba", 1, "1-4 1-2"},
		{"BRE:\\(\\)\\1*x", "x", 0, "0-1 0-0"},
		{"(a)\\1", "aa", 0, "0-2 0-1"},
		{"(a)\\1", "ab", 0, "no"},
		{"(a)\\1", "a", 0, "no"},
		{"(.)\\1", "aA", 0, "no"},
		{"(ab)\\1", "abab", 0, "0-4 0-2"},
		{"(ab)\\1", "aba", 0, "no"},
		{"(ab)\\1", "abac", 0, "no"},
		{"(ab)\\1", "xabab", 1, "1-5 1-3"},
		{"(a*)\\1", "b", 0, "0-0 0-0"},
		{"(a*)\\1", "aaaaa", 0, "0-4 0-2"},
		{"(a*)\\1$", "aaaaa", 0, "no"},
		{"(.*)\\1$", "abab", 0, "0-4 0-2"},
		{"(a)\\1*", "aaab", 0, "0-3 0-1"},
		{"(a)\\1{2}", "aaaa", 0, "0-3 0-1"},
		{"(a)|b\\1", "b", 0, "no"},
		{"(a)?\\1", "b", 0, "no"},
		{"(a)?\\1", "aa", 0, "0-2 0-1"},
		{"(a)*\\1", "aaa", 0, "0-3 1-2"},
		{"(a|b)*\\1", "abb", 0, "0-3 1-2"},
		{"(.)(.)\\2\\1", "abba", 0, "0-4 0-1 1-2"},
		{"((a|b)\\2)*", "aabb", 0, "0-4 2-4 2-3"},
		{"(\\n|\\.)\\1", "\n\n", 0, "0-2 0-1"},
	})
	// \1 in its own group: nothing at the first time, and then what the time ahead took.
	own := func(lo int) api.Re {
		return reOf(1, set('a'), back(1), set('b'), cat(1, 2), alt(0, 3), group(1, 4), rep(5, lo, api.Unbounded))
	}
	tells(t, own(0), "aab", 0, "0-3 1-3", 28)
	tells(t, own(2), "ab", 0, "no", 13)
	tells(t, reOf(1, back(1), group(1, 0)), "a", 0, "no", 2)
	tells(t, reOf(1, back(1), star(0), group(1, 1)), "a", 0, "0-0 0-0", 4)
}

// P11.1: of ways that have matched the best: by the end, and then by the first group that isn't the same: that it has a span, that it begins earlier, that it ends later.
func TestBest(t *testing.T) {
	likeTrials(t, []trial{
		{"a|ab", "abc", 0, "0-2"},
		{"ab|a", "abc", 0, "0-2"},
		{"a|ab|abc", "abcd", 0, "0-3"},
		{"(a)|ab", "ab", 0, "0-2"},
		{"ab|(a)", "ab", 0, "0-2"},
		{"(a)|a", "a", 0, "0-1 0-1"},
		{"a|(a)", "a", 0, "0-1 0-1"},
		{"(a)b|a(b)", "ab", 0, "0-2 0-1"},
		{"a(b)|(a)b", "ab", 0, "0-2 1-2"},
		{"a|(a)|(a)", "a", 0, "0-1 0-1"},
		{"a*(ab|b)", "aab", 0, "0-3 1-3"},
		{"a*(a*)", "aa", 0, "0-2 0-2"},
		{"a*(b|ab)", "aab", 0, "0-3 1-3"},
		{"(a*)a*", "aa", 0, "0-2 0-2"},
		{"(a?)a*", "aa", 0, "0-2 0-1"},
		{"(a|ab)(c|bcd)(d*)", "abcd", 0, "0-4 0-2 2-3 3-4"},
		{"(ab|a)(bcd|c)(d*)", "abcd", 0, "0-4 0-2 2-3 3-4"},
		{"(a*)(a*)(a*)", "aaa", 0, "0-3 0-3 3-3 3-3"},
		{"(a?)(ab?)", "ab", 0, "0-2 0-0 0-2"},
		{"(a|ab|b)*", "ab", 0, "0-2 0-2"},
		{"(a|b|ab)*", "ab", 0, "0-2 0-2"},
		{"(a)(b)?|(ab)", "ab", 0, "0-2 0-1 1-2"},
		{"(ab)|(a)(b)?", "ab", 0, "0-2 0-2"},
		{"a(a)|(aa)", "aa", 0, "0-2 1-2"},
		{"(a|aa)*", "aaa", 0, "0-3 1-3"},
	})
	// The group 1 ends the comparison, though the group 2 of the other way is the better one.
	likeTrials(t, []trial{
		{"(a|ab)(bb|b)", "abb", 0, "0-3 0-2 2-3"},
		{"(a|ab)(b)?", "ab", 0, "0-2 0-2"},
		{"(a*)(b|ab)", "aab", 0, "0-3 0-2 2-3"},
	})
}

// P11.1: what is joined from the left and from the right matches the same, in as many groups.
func TestJoined(t *testing.T) {
	g := func(kind func(a, b int) api.Node) (left, right api.Re) {
		ahead := []api.Node{set('a'), group(1, 0), set('a', 'b'), star(2), group(2, 3), set('b'), group(3, 5)}
		left = reOf(3, append(slices.Clone(ahead), kind(1, 4), kind(7, 6))...)
		right = reOf(3, append(slices.Clone(ahead), kind(4, 6), kind(1, 7))...)
		return left, right
	}
	for _, kind := range []func(a, b int) api.Node{cat, alt} {
		left, right := g(kind)
		for _, text := range []string{"", "a", "b", "ab", "abb", "aabab", "bbb", "aba"} {
			for at := range len(text) + 1 {
				one, ok, _ := likeModel(t, left, text, at)
				other, again, _ := likeModel(t, right, text, at)
				if one != other || ok != again {
					t.Errorf("%q, at %d: %q and %q", text, at, hitText(one, ok), hitText(other, again))
				}
			}
		}
	}
	left, right := g(cat)
	tells(t, left, "abab", 0, "0-4 0-1 1-3 3-4", 28)
	tells(t, right, "abab", 0, "0-4 0-1 1-3 3-4", 28)
	tells(t, left, "b", 0, "no", 4)
	tells(t, right, "b", 0, "no", 3)
}

// P11.1: spans of numbers that aren't a group's, and of groups that have none, are From -1 and To -1; without a match all is zeros.
func TestNoSpan(t *testing.T) {
	hit, ok, left, e := match.At(parsed(t, "(a)|(b)"), []byte("xb"), 1, 100)
	want := api.Hit{Spans: [10]api.Span{{From: 1, To: 2}, none, {From: 1, To: 2}, none, none, none, none, none, none, none}}
	if hit != want || !ok || left != 94 || e != api.OK {
		t.Error(hit, ok, left, e)
	}
	hit, ok, left, e = match.At(reOf(0, empty()), nil, 0, 1)
	want = api.Hit{Spans: [10]api.Span{{}, none, none, none, none, none, none, none, none, none}}
	if hit != want || !ok || left != 0 || e != api.OK {
		t.Error(hit, ok, left, e)
	}
	hit, ok, left, e = match.At(parsed(t, "(a)b"), []byte("ac"), 0, 100)
	if hit != (api.Hit{}) || ok || left != 95 || e != api.OK {
		t.Error(hit, ok, left, e)
	}
}

// notRight are regular expressions that aren't right (6).
func notRight() []api.Re {
	a := set('a')
	l := []api.Re{
		{}, {Nodes: []api.Node{}}, {Groups: 1}, {Groups: 9},
		reOf(1, a), reOf(-1, a), reOf(10, a), reOf(0, a, a), reOf(0, a, group(1, 0)), reOf(2, a, group(1, 0)),
		reOf(0, back(1)), reOf(1, back(1)), reOf(1, a, group(0, 0)), reOf(1, a, group(1, 0), group(1, 1)),
		reOf(0, a, cat(0, 0)), reOf(0, a, alt(0, 0)), reOf(0, a, cat(0, 1)), reOf(0, a, alt(1, 0)), reOf(0, star(0)), reOf(1, group(1, 0)),
		reOf(0, a, rep(0, 1, 0)), reOf(0, a, rep(0, -1, 1)), reOf(0, a, rep(0, 0, 256)), reOf(0, a, rep(0, 256, 256)),
		reOf(0, a, rep(0, 256, api.Unbounded)), reOf(0, a, rep(0, 0, -2)), reOf(0, a, rep(0, -2, api.Unbounded)),
		reOf(0, api.Node{Kind: 9}), reOf(0, api.Node{Kind: -1}), reOf(0, api.Node{Kind: api.NEmpty, Lo: 1}), reOf(0, api.Node{Kind: api.NBol, A: 1}),
		reOf(0, api.Node{Kind: api.NSet, Hi: 1}), reOf(0, api.Node{Kind: api.NEol, Set: class.Of('a')}), reOf(0, api.Node{Kind: api.NEmpty, Group: 1}),
		around(reOf(0, a), 1000), around(reOf(0, a), 5000),
	}
	for _, n := range ends {
		l = append(l, reOf(0, a, cat(0, n)), reOf(0, a, cat(n, 0)), reOf(0, a, alt(0, n)), reOf(0, a, star(n)), reOf(1, a, group(1, n)),
			reOf(1, a, group(n, 0)), reOf(1, a, group(1, 0), back(n), cat(1, 2)), reOf(n, a), reOf(0, api.Node{Kind: n}))
		if n != api.Unbounded {
			l = append(l, reOf(0, a, rep(0, 0, n)))
		}
		l = append(l, reOf(0, a, rep(0, n, api.Unbounded)), reOf(0, a, rep(0, n, n)))
	}
	return l
}

// around is re in that many repetitions, one around the other.
func around(re api.Re, n int) api.Re {
	re = reOf(re.Groups, slices.Clone(re.Nodes)...)
	for range n {
		re.Nodes = append(re.Nodes, rep(len(re.Nodes)-1, 1, 1))
	}
	return re
}

// fails asks At for an error, with all zeros beside it.
func fails(t *testing.T, re api.Re, text []byte, at, fuel int, e api.Errno) {
	t.Helper()
	hit, ok, left, got := match.At(re, text, at, fuel)
	if hit != (api.Hit{}) || ok || left != 0 || got != e {
		t.Errorf("%s, %.99q, at %d, fuel %d: %v, %v, %d, %v; want %v", short(re), text, at, fuel, hit, ok, left, got, e)
	}
}

// P11.1: ErrArg: a regular expression that isn't right, with arguments that are well and with others.
func TestNotRight(t *testing.T) {
	for _, re := range notRight() {
		if tree.Right(re) {
			t.Error(short(re))
		}
		for _, text := range [][]byte{nil, {}, []byte("a"), []byte("aaaa")} {
			for _, fuel := range []int{0, 1, 100, math.MaxInt, -1} {
				fails(t, re, text, 0, fuel, api.ErrArg)
				fails(t, re, text, len(text), fuel, api.ErrArg)
				fails(t, re, text, -1, fuel, api.ErrArg)
				fails(t, re, text, len(text)+1, fuel, api.ErrArg)
			}
		}
	}
}

// P11.1: ErrArg: a place below 0 and above the text's end, and fuel below 0; ErrFuel is looked for behind these.
func TestWrongNumbers(t *testing.T) {
	for _, b := range []string{"", "a", "a*", "(a)|b", "^$"} {
		re := parsed(t, b)
		for _, text := range []string{"", "a", "aab"} {
			for _, at := range append([]int{len(text) + 1, len(text) + 2}, ends...) {
				for _, fuel := range append([]int{0, 1, 100}, ends...) {
					fails(t, re, []byte(text), at, fuel, api.ErrArg)
				}
			}
			for at := range len(text) + 1 {
				for _, fuel := range ends {
					if fuel < 0 {
						fails(t, re, []byte(text), at, fuel, api.ErrArg)
					}
				}
				fails(t, re, []byte(text), at, 0, api.ErrFuel)
			}
		}
	}
}

// P11.1 and P11.3: each fuel from 0 on: below what it costs it is too little, and from there on nothing changes but what is left.
func TestEachFuel(t *testing.T) {
	for _, x := range []trial{{"a*", "aab", 0, "0-2"}, {"(a|ab)(c|bcd)(d*)", "abcd", 0, "0-4 0-2 2-3 3-4"}, {"(a*)*b", "aaaac", 0, "no"}, {"(a?){3}b", "ab", 0, "0-2 1-1"}, {"a", "b", 0, "no"}} {
		re := parsed(t, x.re)
		hit, ok, cost := likeModel(t, re, x.text, x.at)
		if got := hitText(hit, ok); got != x.want {
			t.Errorf("%q, %q: %q", x.re, x.text, got)
		}
		for fuel := range cost {
			fails(t, re, []byte(x.text), x.at, fuel, api.ErrFuel)
		}
		for _, more := range []int{0, 1, 2, 3, 10, 1000, api.MaxFuel, 1 << 40, math.MaxInt - cost} {
			answers(t, re, x.text, x.at, cost+more, hit, ok, more, api.OK)
		}
	}
}

// grown are all trees of 1 to most nodes, by how many they have: of these leaves, and of these nodes around a part, and NCat and NAlt of two; a node's part has the number 0 till it is put there.
func grown(most int, leaves, around []api.Node) [][][]api.Node {
	trees := make([][][]api.Node, most+1)
	for _, n := range leaves {
		trees[1] = append(trees[1], []api.Node{n})
	}
	for size := 2; size <= most; size++ {
		for _, part := range trees[size-1] {
			for _, n := range around {
				n.A = size - 2
				trees[size] = append(trees[size], append(slices.Clone(part), n))
			}
		}
		for ahead := 1; ahead < size-1; ahead++ {
			for _, a := range trees[ahead] {
				for _, b := range trees[size-1-ahead] {
					both := append(slices.Clone(a), moved(b, ahead)...)
					trees[size] = append(trees[size], append(slices.Clone(both), cat(ahead-1, size-2)), append(both, alt(ahead-1, size-2)))
				}
			}
		}
	}
	return trees
}

// moved are nodes whose parts' numbers are greater by so many.
func moved(nodes []api.Node, by int) []api.Node {
	l := slices.Clone(nodes)
	for i, n := range l {
		switch n.Kind {
		case api.NCat, api.NAlt:
			l[i].A, l[i].B = n.A+by, n.B+by
		case api.NRep, api.NGroup:
			l[i].A += by
		}
	}
	return l
}

// eachText hands over all texts of up to most of these bytes.
func eachText(signs string, most int, do func(string)) {
	l := []string{""}
	for range most + 1 {
		var longer []string
		for _, b := range l {
			do(b)
			for _, c := range signs {
				longer = append(longer, b+string(c))
			}
		}
		l = longer
	}
}

// P11.1 and P11.3: all small trees, over all short texts, at each place: what matches, and what it costs, is as the model tells.
func TestSmallTrees(t *testing.T) {
	tried, matched := 0, 0
	each := func(trees [][][]api.Node, groups, most int) {
		for _, l := range trees {
			for _, nodes := range l {
				re := reOf(groups, nodes...)
				if !tree.Right(re) {
					continue
				}
				eachText("ab", most, func(text string) {
					for at := range len(text) + 1 {
						tried++
						if _, ok, _ := likeModel(t, re, text, at); ok {
							matched++
						}
					}
				})
			}
		}
	}
	times := []api.Node{star(0), rep(0, 1, 1), rep(0, 1, 2), rep(0, 2, 2), rep(0, 2, api.Unbounded)}
	each(grown(5, []api.Node{empty(), set(), set('a'), set('a', 'b'), bol(), eol()}, times), 0, 2)
	each(grown(5, []api.Node{empty(), set('a'), set('a', 'b'), back(1)}, []api.Node{star(0), rep(0, 2, 3), group(1, 0)}), 1, 4)
	each(grown(6, []api.Node{empty(), set('a'), bol()}, []api.Node{rep(0, 0, 1), rep(0, 2, 2), group(1, 0)}), 1, 2)
	each(grown(7, []api.Node{set('a'), back(1)}, []api.Node{star(0), group(1, 0), group(2, 0)}), 2, 2)
	if tried < 500000 || matched < tried/5 || matched > tried*4/5 {
		t.Error(tried, matched)
	}
}

// someTree is a right tree whose nodes are put as it comes: parts stand anywhere ahead of what they are parts of, and groups in any order.
func someTree(r *numbers) api.Re {
	var nodes []api.Node
	var free []int
	groups := r.Intn(4)
	var numbers []int // of the groups that aren't put yet
	for g := range groups {
		numbers = slices.Insert(numbers, r.Intn(g+1), g+1)
	}
	put := func(n api.Node) {
		free = append(free, len(nodes))
		nodes = append(nodes, n)
	}
	part := func() int {
		i := r.Intn(len(free))
		n := free[i]
		free = slices.Delete(free, i, i+1)
		return n
	}
	join := func() {
		n := cat(part(), part())
		if r.Intn(3) == 0 {
			n.Kind = api.NAlt
		}
		put(n)
	}
	enclose := func() {
		put(group(numbers[0], part()))
		numbers = numbers[1:]
	}
	leaves := []api.Node{set('a'), set('a'), set('b'), set('a', 'b'), empty(), bol(), eol()}
	for g := range groups {
		leaves = append(leaves, back(g+1))
	}
	put(leaves[r.Intn(len(leaves))])
	for range 2 + r.Intn(14) {
		switch k := r.Intn(9); {
		case k < 3 && len(free) > 1:
			join()
		case k == 3 || k == 4:
			lo := r.Intn(4)
			put(rep(part(), lo, []int{api.Unbounded, api.Unbounded, lo, lo + 1, 255}[r.Intn(5)]))
		case k == 5 && len(numbers) > 0:
			enclose()
		default:
			put(leaves[r.Intn(len(leaves))])
		}
	}
	for len(numbers) > 0 {
		enclose()
	}
	for len(free) > 1 {
		join()
	}
	return reOf(groups, nodes...)
}

// someText is a text of up to most bytes.
func someText(r *numbers, most int) string {
	text := ""
	for range r.Intn(most + 1) {
		text += string("aab"[r.Intn(3)])
	}
	return text
}

// P11.1 and P11.3: greater trees that seem to have no order: as the model tells.
func TestSomeTrees(t *testing.T) {
	r := numbers(1111)
	matched, ended, above := 0, 0, 0
	for range 100000 {
		re, text := someTree(&r), someText(&r, 12)
		if !tree.Right(re) {
			t.Fatal(short(re))
		}
		_, ok, cost := likeModel(t, re, text, r.Intn(len(text)+1))
		switch {
		case cost > limit:
			above++
		case ok:
			matched++
		default:
			ended++
		}
	}
	if matched < 10000 || ended < 10000 || above < 10 || above > 1000 {
		t.Error(matched, ended, above)
	}
}

// P11.1: a node or a number of a right tree is changed: ErrArg, just if what comes of it isn't right.
func TestChangedTrees(t *testing.T) {
	r := numbers(1112)
	right, wrong := 0, 0
	for range 100000 {
		re, text := someTree(&r), someText(&r, 5)
		n := &re.Nodes[r.Intn(len(re.Nodes))]
		number := []int{-1, 0, 1, 2, len(re.Nodes) - 1, len(re.Nodes), 255, 256, ends[r.Intn(len(ends))]}[r.Intn(9)]
		switch r.Intn(7) {
		case 0:
			n.A = number
		case 1:
			n.B = number
		case 2:
			n.Lo = number
		case 3:
			n.Hi = number
		case 4:
			n.Group = number
		case 5:
			n.Kind = number
		case 6:
			re.Groups = number
		}
		if tree.Right(re) {
			likeModel(t, re, text, 0)
			right++
			continue
		}
		fails(t, re, []byte(text), 0, limit, api.ErrArg)
		wrong++
	}
	if right < 10000 || wrong < 10000 {
		t.Error(right, wrong)
	}
}

// P11.1: long texts, and what is tried of them, by what the table says of each byte.
func TestLongTexts(t *testing.T) {
	const n = 65536
	text := strings.Repeat("ab", n/2)
	costs(t, parsed(t, ".*"), text, 0, hitOf(n), true, 2+2*n)
	costs(t, parsed(t, "(a|b)*"), text, 0, hitOf(n, api.Span{From: n - 1, To: n}), true, 5+6*n)
	costs(t, parsed(t, "(.*)$"), text, 0, hitOf(n, api.Span{To: n}), true, 4+2*n+2*(n+1))
	costs(t, parsed(t, "(.*)\\1"), text, 0, hitOf(n, api.Span{To: n / 2}), true, 4+2*n+2*(n+1))
	tells(t, reOf(0, set('b'), star(0)), text, n, spanText(n, n), 2)
	tells(t, reOf(0, eol()), text, n, spanText(n, n), 1)
}

// P1: where the ways are beyond counting, the fuel ends them.
func TestManyWays(t *testing.T) {
	text := []byte(strings.Repeat("a", 65536))
	for _, b := range []string{"((a*)*)*b", "(a|a)*b", "(a|aa)*b", "(a*){255}b", "((a{1,255}){1,255}){1,255}b", "(a*)(a*)(a*)(a*)(a*)\\1b", "((a|b|c{0})*c*)*x"} {
		re := parsed(t, b)
		for _, fuel := range []int{0, 1, 2, 1000, 65536, 300000} {
			fails(t, re, text, 0, fuel, api.ErrFuel)
			fails(t, re, text, 65536-100, min(fuel, 1000), api.ErrFuel)
		}
	}
}

// P11.1: 1,000 nodes, one around the other and one beside the other.
func TestManyNodes(t *testing.T) {
	deep := around(reOf(0, set('a')), 999)
	tells(t, deep, "aa", 0, "0-1", 1999)
	tells(t, deep, "b", 0, "no", 1000)
	tells(t, around(reOf(0, empty()), 999), "b", 1, "1-1", 1999)
	of := func(node func(a, b int) api.Node, fromLeft bool) api.Re {
		var re api.Re
		for range 500 {
			re.Nodes = append(re.Nodes, set('a'))
		}
		for i := range 499 {
			all := 499 + i // what was put together ahead
			switch {
			case i == 0 && fromLeft:
				re.Nodes = append(re.Nodes, node(0, 1))
			case i == 0:
				re.Nodes = append(re.Nodes, node(498, 499))
			case fromLeft:
				re.Nodes = append(re.Nodes, node(all, i+1))
			default:
				re.Nodes = append(re.Nodes, node(498-i, all))
			}
		}
		return re
	}
	for _, fromLeft := range []bool{false, true} {
		tells(t, of(cat, fromLeft), strings.Repeat("a", 501), 0, "0-500", 999)
		tells(t, of(cat, fromLeft), strings.Repeat("a", 499), 0, "no", 999)
		tells(t, of(alt, fromLeft), "aa", 0, "0-1", 999)
		tells(t, of(alt, fromLeft), "b", 0, "no", 999)
	}
	nine := around(parsed(t, "(.)(.)(.)(.)(.)(.)(.)(.)(.)"), 974)
	tells(t, nine, "abcdefghij", 0, "0-9 0-1 1-2 2-3 3-4 4-5 5-6 6-7 7-8 8-9", 35+2*974)
}

// R4: what is handed in stays as it was, and what lies behind the text's end and behind the nodes plays no part.
func TestArgumentsStay(t *testing.T) {
	nodes := []api.Node{set('a'), star(0), eol(), cat(1, 2), back(9), set('b')}
	before := slices.Clone(nodes)
	text := []byte("aaaab")
	for length := range 5 {
		for at := range length + 1 {
			hit, ok, left, e := match.At(reOf(0, nodes[:2]...), text[:length], at, 1000)
			if got := hitText(hit, ok); got != spanText(at, length) || left != 998-2*(length-at) || e != api.OK {
				t.Errorf("%d, %d: %q, %d, %v", length, at, got, left, e)
			}
			hit, ok, _, e = match.At(api.Re{Nodes: nodes[:4]}, text[:length], at, 1000)
			if got := hitText(hit, ok); got != spanText(at, length) || e != api.OK {
				t.Errorf("%d, %d: %q, %v", length, at, got, e)
			}
		}
	}
	if hit, ok, left, e := match.At(parsed(t, "(a)\\1"), text[:1], 0, 1000); hit != (api.Hit{}) || ok || left != 995 || e != api.OK {
		t.Error(hit, ok, left, e)
	}
	fails(t, api.Re{Nodes: nodes[:5]}, text, 0, 1000, api.ErrArg)
	if string(text) != "aaaab" || !slices.Equal(nodes, before) {
		t.Error(string(text), nodes)
	}
	r := numbers(4)
	for range 2000 {
		re, text := someTree(&r), []byte(someText(&r, 6))
		nodes, bytes := slices.Clone(re.Nodes), string(text)
		match.At(re, text, r.Intn(len(text)+1), r.Intn(300))
		if !slices.Equal(re.Nodes, nodes) || string(text) != bytes {
			t.Fatalf("%s, %q: %s, %q", short(reOf(re.Groups, nodes...)), bytes, short(re), text)
		}
	}
}

// P11.1: a text that is nil and one that is empty are the same.
func TestNoText(t *testing.T) {
	for _, text := range [][]byte{nil, {}, []byte("a")[:0]} {
		for b, want := range map[string]string{"": "0-0", "a": "no", "a*": "0-0", "^$": "0-0", "(a*)$": "0-0 0-0", "(a)*": "0-0"} {
			hit, ok, left, e := match.At(parsed(t, b), text, 0, 1000)
			if got := hitText(hit, ok); got != want || left >= 1000 || e != api.OK {
				t.Errorf("%q: %q, %d, %v", b, got, left, e)
			}
		}
		fails(t, parsed(t, "a*"), text, 1, 1000, api.ErrArg)
	}
}

// R6: the same call has the same answer, each time, whatever was asked between.
func TestSameAnswer(t *testing.T) {
	type answer struct {
		hit  api.Hit
		ok   bool
		left int
		e    api.Errno
	}
	ask := func() []answer {
		r := numbers(6)
		var l []answer
		for range 3000 {
			var a answer
			text := someText(&r, 7)
			a.hit, a.ok, a.left, a.e = match.At(someTree(&r), []byte(text), r.Intn(len(text)+2), r.Intn(500)-1)
			l = append(l, a)
		}
		return l
	}
	if one, two := ask(), ask(); !slices.Equal(one, two) {
		t.Error("not the same")
	}
}
