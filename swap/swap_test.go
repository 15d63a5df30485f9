package swap_test

import (
	"bytes"
	"slices"
	"strconv"
	"strings"
	"testing"

	"palinode/api"
	"palinode/find"
	"palinode/retext"
	"palinode/swap"
)

var noSpan = api.Span{From: -1, To: -1}

// span is a span from one place to another.
func span(from, to int) api.Span { return api.Span{From: from, To: to} }

// hitOf is a hit whose span 0 is that, and whose groups from 1 on are those; the others have none.
func hitOf(from, to int, groups ...api.Span) api.Hit {
	var hit api.Hit
	for g := range hit.Spans {
		hit.Spans[g] = noSpan
	}
	hit.Spans[0] = span(from, to)
	copy(hit.Spans[1:], groups)
	return hit
}

// parsed are the parts that s writes, with 9 groups.
func parsed(t *testing.T, s string) []api.Part {
	t.Helper()
	l, at, e := swap.Parse([]byte(s), 9)
	if e != api.OK || at != 0 {
		t.Fatalf("Parse(%.99q, 9): %d, %v", s, at, e)
	}
	return l
}

// P13.2: the chapter's example.
func TestExample(t *testing.T) {
	l := parsed(t, `[&\1]`)
	if got := expands(t, l, "ab", hitOf(0, 2, span(1, 2))); got != "[abb]" {
		t.Errorf("Expand: %q", got)
	}
	if got := replaces(t, l, "ab", hitOf(0, 2, span(1, 2))); got != "[abb]" {
		t.Errorf("Replace: %q", got)
	}
}

// P13.1: no bytes, and nil, write no part.
func TestParseNothing(t *testing.T) {
	for _, groups := range append([]int{0, 1, 9}, ends...) {
		parses(t, "", groups, nil, 0, api.OK)
		if l, at, e := swap.Parse(nil, groups); len(l) != 0 || at != 0 || e != api.OK {
			t.Errorf("Parse(nil, %d): %s, %d, %v", groups, told(l), at, e)
		}
	}
}

// P13.1: what bytes write, by hand.
func TestParse(t *testing.T) {
	for _, x := range []struct{ s, want string }{
		{"a", `"a"`},
		{"abc", `"abc"`},
		{" ", `" "`},
		{"&", `\0`},
		{"&&", `\0 \0`},
		{"&&&", `\0 \0 \0`},
		{"a&", `"a" \0`},
		{"&a", `\0 "a"`},
		{"ab&cd", `"ab" \0 "cd"`},
		{"a&b&c", `"a" \0 "b" \0 "c"`},
		{`a\1b`, `"a" \1 "b"`},
		{`\1`, `\1`},
		{`\1\1`, `\1 \1`},
		{`\1\2\3\4\5\6\7\8\9`, `\1 \2 \3 \4 \5 \6 \7 \8 \9`},
		{`&\1&`, `\0 \1 \0`},
		{`\12`, `\1 "2"`},
		{`\10`, `\1 "0"`},
		{`\0`, `"0"`},
		{`\01`, `"01"`},
		{`\00`, `"00"`},
		{`a\0b`, `"a0b"`},
		{`\0&`, `"0" \0`},
		{`1`, `"1"`},
		{`\&`, `"&"`},
		{`a\&b`, `"a&b"`},
		{`\&&`, `"&" \0`},
		{`&\&`, `\0 "&"`},
		{`\\`, `"\\"`},
		{`\\\\`, `"\\\\"`},
		{`\\&`, `"\\" \0`},
		{`\\\&`, `"\\&"`},
		{`\\1`, `"\\1"`},
		{`\\\1`, `"\\" \1`},
		{`\\n`, `"\\n"`},
		{`\\\n`, `"\\\n"`},
		{`\n`, `"\n"`},
		{`a\nb`, `"a\nb"`},
		{`\n\n`, `"\n\n"`},
		{`n`, `"n"`},
		{`\N`, `"N"`},
		{"\\\n", `"\n"`},
		{"\\\n\\\n", `"\n\n"`},
		{"\n", `"\n"`},
		{"a\nb", `"a\nb"`},
		{"\n\n", `"\n\n"`},
		{"&\n&", `\0 "\n" \0`},
		{"\n\\\n\\n", `"\n\n\n"`},
		{"\\\r\n", `"\r\n"`},
		{`\a\t\q\/\.`, `"atq/."`},
		{`a\bc`, `"abc"`},
		{`\é`, `"é"`},
		{"é\\1ü", `"é" \1 "ü"`},
		{"\\\xff", `"\xff"`},
		{"\xc3\\\xa9", `"é"`},
		{"\x00\\\x00&\x80", `"\x00\x00" \0 "\x80"`},
		{`[&\1]`, `"[" \0 \1 "]"`},
		{`\(\)\{\}$^*`, `"(){}$^*"`},
		{`\x26`, `"x26"`},
		{`\u\1\E`, `"u" \1 "E"`},
	} {
		l, e := parsesLikeModel(t, x.s, 9)
		if got := told(l); got != x.want || e != api.OK {
			t.Errorf("%q: %s, %v; want %s", x.s, got, e, x.want)
		}
	}
}

// P13.1: two ways to write a text come out as one part, the same one.
func TestOneText(t *testing.T) {
	for _, l := range [][]string{
		{"abc", `\abc`, `a\bc`, `ab\c`, `\a\b\c`},
		{`a\&b`, `\a\&b`, `a\&\b`},
		{`\n`, "\\\n", "\n"},
		{`x\n\\y`, "x\\\n\\\\y", "\\x\n\\\\y"},
		{`0`, `\0`},
	} {
		first := parsed(t, l[0])
		if len(first) != 1 {
			t.Errorf("%q: %s", l[0], told(first))
		}
		for _, s := range l {
			parses(t, s, 9, first, 0, api.OK)
			same(t, first, parsed(t, s), true)
		}
	}
}

// P13.1: each byte, by itself and behind a \ , alone and between others.
func TestEachByte(t *testing.T) {
	for c := range 256 {
		by := string([]byte{byte(c)})
		for _, ahead := range []string{"", "a", `\\`, "&", "\n", "\xff"} {
			for _, behind := range []string{"", "z", "&", `\1`, "\x80"} {
				parsesLikeModel(t, ahead+by+behind, 9)
				parsesLikeModel(t, ahead+`\`+by+behind, 9)
			}
		}
		want := by
		switch {
		case '1' <= c && c <= '9':
			parses(t, `\`+by, 9, []api.Part{groupPart(c - '0')}, 0, api.OK)
			continue
		case c == 'n':
			want = "\n"
		}
		parses(t, `\`+by, 9, []api.Part{textPart(want)}, 0, api.OK)
		parses(t, `x\`+by+"y", 0, []api.Part{textPart("x" + want + "y")}, 0, api.OK)
	}
	every := strings.NewReplacer(`\`, "", "&", "").Replace(allBytes())
	parses(t, every, 0, []api.Part{textPart(every)}, 0, api.OK)
}

// P13.1: ErrBack: each digit from 1 on, above groups and not, for groups of any size; & and text are written whatever groups is.
func TestGroupsAbove(t *testing.T) {
	all := append([]int{0, 1, 2, 3, 4, 5, 6, 7, 8, 9}, ends...)
	for _, groups := range all {
		for d := 1; d <= 9; d++ {
			s := `\` + strconv.Itoa(d)
			if d > groups {
				fails(t, s, groups, 0, api.ErrBack)
				fails(t, "ab"+s, groups, 2, api.ErrBack)
				fails(t, `&\&`+s+"&", groups, 3, api.ErrBack)
				fails(t, s+"0", groups, 0, api.ErrBack)
			} else {
				parses(t, s, groups, []api.Part{groupPart(d)}, 0, api.OK)
				parses(t, "ab"+s, groups, []api.Part{textPart("ab"), groupPart(d)}, 0, api.OK)
				parses(t, s+"0", groups, []api.Part{groupPart(d), textPart("0")}, 0, api.OK)
			}
			parses(t, `\`+s, groups, []api.Part{textPart(s)}, 0, api.OK)
		}
		parses(t, `a&\&\n`, groups, []api.Part{textPart("a"), groupPart(0), textPart("&\n")}, 0, api.OK)
	}
}

// P13.1: ErrEscape: a \ that ends the bytes, unless it stands behind another that takes it along.
func TestEscapeEnds(t *testing.T) {
	for n := range 9 {
		for _, ahead := range []string{"", "a", "ab", "&", `\1`, "\n", `\n`, "\xff"} {
			s := ahead + strings.Repeat(`\`, n)
			if n%2 == 1 {
				fails(t, s, 1, len(s)-1, api.ErrEscape)
			} else {
				parsesLikeModel(t, s, 1)
			}
		}
	}
}

// P13.1: the first of several places is told, and no parts beside it.
func TestFirstWrong(t *testing.T) {
	for _, x := range []struct {
		s      string
		groups int
		at     int
		e      api.Errno
	}{
		{`\`, 9, 0, api.ErrEscape},
		{`\`, 0, 0, api.ErrEscape},
		{`ab\`, 0, 2, api.ErrEscape},
		{`\\\`, 0, 2, api.ErrEscape},
		{`&\`, 0, 1, api.ErrEscape},
		{`\1\`, 1, 2, api.ErrEscape},
		{`\1\`, 0, 0, api.ErrBack},
		{`\1\2\`, 1, 2, api.ErrBack},
		{`\2\1\`, 1, 0, api.ErrBack},
		{`\1\2\3`, 1, 2, api.ErrBack},
		{`\9\8\7`, 7, 0, api.ErrBack},
		{`\7\8\9`, 7, 2, api.ErrBack},
		{`a\\1\2`, 1, 4, api.ErrBack},
		{`\\\2\`, 1, 2, api.ErrBack},
		{`\0\1`, 0, 2, api.ErrBack},
		{`0123\4`, 3, 4, api.ErrBack},
		{"\\\n\\n\\5", 4, 4, api.ErrBack},
		{`é\1`, 0, 2, api.ErrBack},
	} {
		fails(t, x.s, x.groups, x.at, x.e)
	}
}

// P13.1 to P13.3: all short texts of bytes that mean something, with groups of any size: as the model tells, and written again.
func TestParseShortTexts(t *testing.T) {
	hit := hitOf(1, 3, span(0, 2), noSpan, span(2, 2))
	for _, x := range []struct {
		of     string
		groups []int
	}{
		{"\\&n\n12", []int{0, 1, 2, 9}},
		{"\\&0\n9a", []int{0, 8, 9, 10}},
		{"\\&n\n3\xff", []int{-1, 2, 3}},
	} {
		for _, s := range shortTexts(x.of, 6) {
			for _, groups := range x.groups {
				l, e := parsesLikeModel(t, s, groups)
				if e == api.OK {
					written(t, l)
					expands(t, l, "xyz", hit)
				}
			}
		}
	}
}

// P13.1 and P13.3: lists by hand are written.
func TestText(t *testing.T) {
	if b := swap.Text(nil); len(b) != 0 {
		t.Errorf("Text(nil): %q", b)
	}
	if b := swap.Text([]api.Part{}); len(b) != 0 {
		t.Errorf("Text of no part: %q", b)
	}
	for _, s := range []string{
		"a", "abc", "&", `\`, `\\`, "\n", "\n\n", "n", `\n`, "\\\n", "\n\\", `\&`, `&\`, "&&", "&\n&", "a\nb", "1", "0", `\1`, `\0`, "&1", "/", "a/b", " ", "\t\r",
		"\xff", "é", "\x00", "\xc3\n\xa9", allBytes(), strings.Repeat("\n", 99), strings.Repeat(`\&`, 99),
	} {
		written(t, []api.Part{textPart(s)})
		for g := range 10 {
			written(t, []api.Part{groupPart(g), textPart(s)})
			written(t, []api.Part{textPart(s), groupPart(g)})
			written(t, []api.Part{textPart(s), groupPart(g), textPart(s)})
		}
	}
	var each []api.Part
	for g := range 10 {
		written(t, []api.Part{groupPart(g)})
		written(t, []api.Part{groupPart(g), groupPart(g)})
		for h := range 10 {
			written(t, []api.Part{groupPart(g), groupPart(h), textPart("7"), groupPart(h)})
		}
		each = append(each, groupPart(g))
	}
	written(t, each)
	for c := range 256 {
		by := string([]byte{byte(c)})
		for _, s := range []string{by, by + by, by + "\n", "\n" + by, by + `\`, `\` + by, by + "&", "&" + by} {
			written(t, []api.Part{textPart(s)})
			written(t, []api.Part{groupPart(1), textPart(s), groupPart(0)})
		}
	}
}

// P13.1 and P13.2: what a part has beside what its kind asks for is neither written nor expanded; the same it isn't.
func TestBeside(t *testing.T) {
	l := []api.Part{{Kind: api.PText, Group: 3, B: []byte("a&")}, {Kind: api.PGroup, Group: 2, B: []byte("xyz")}, {Kind: api.PText, Group: -7, B: []byte("\n")}, {Kind: api.PGroup, B: []byte(`\`)}}
	written(t, l)
	hit := hitOf(0, 3, span(0, 1), span(1, 2), span(2, 3))
	if got := expands(t, l, "123", hit); got != "a&2\n123" {
		t.Errorf("Expand: %q", got)
	}
	if got := replaces(t, l, "123", hit); got != "a&2\n123" {
		t.Errorf("Replace: %q", got)
	}
	same(t, l, clone(l), true)
	same(t, l, meant(l), false)
	for _, g := range []int{-1, 10} {
		wrong := []api.Part{{Kind: api.PGroup, Group: g, B: []byte("xyz")}, {Kind: 2, Group: 1, B: []byte("xyz")}, {Kind: -1, Group: 1, B: []byte("xyz")}}
		if got := expands(t, wrong, "123", hit); got != "" {
			t.Errorf("Expand: %q", got)
		}
		if got := replaces(t, wrong, "123", hit); got != "" {
			t.Errorf("Replace: %q", got)
		}
	}
}

// notReplacements are lists of which one part, or two texts, aren't as in a replacement.
func notReplacements() [][]api.Part {
	all := [][]api.Part{
		{textPart("")},
		{{}},
		{textPart("a"), textPart("b")},
		{textPart("&"), textPart("\n"), textPart(`\`)},
		{textPart(""), textPart("")},
		{textPart("a"), textPart(""), groupPart(1)},
		{groupPart(0), textPart(""), groupPart(0)},
	}
	for _, n := range ends {
		all = append(all, []api.Part{groupPart(n)}, []api.Part{textPart("a"), groupPart(n), textPart("b")})
		for _, kind := range []int{n, 2, 3} {
			if kind != api.PText && kind != api.PGroup {
				all = append(all, []api.Part{{Kind: kind, Group: 1, B: []byte("x")}}, []api.Part{groupPart(2), {Kind: kind}, textPart("&")})
			}
		}
	}
	return all
}

// P1, R4 and R6: what isn't a replacement is written by some bytes or none, the same ones each time, and stays as it was.
func TestTextOfOthers(t *testing.T) {
	for _, l := range notReplacements() {
		if isReplacement(l) {
			t.Fatalf("%s is a replacement", told(l))
		}
		was := told(l)
		b := swap.Text(l)
		if again := swap.Text(clone(l)); !bytes.Equal(again, b) || told(l) != was {
			t.Errorf("Text of %s: %q, then %q", was, b, again)
		}
		expands(t, l, "abc", hitOf(0, 2, span(1, 2), span(2, 3)))
		replaces(t, l, "abc", hitOf(0, 2, span(1, 2), span(2, 3)))
		same(t, l, clone(l), true)
	}
}

// P13.3: lists that seem to have no order: those that are replacements are parsed again.
func TestSomeLists(t *testing.T) {
	x := numbers(13)
	every, replacements := allBytes(), 0
	for range 20000 {
		var l []api.Part
		for range x.Intn(6) {
			of := []string{every, "\\&n\n10", "a"}[x.Intn(3)]
			l = append(l, []api.Part{textPart(string(x.bytesOf(of, 5))), groupPart(x.Intn(11)), groupPart(x.Intn(4))}[x.Intn(3)])
		}
		if isReplacement(l) {
			replacements++
			written(t, l)
		} else {
			swap.Text(l)
		}
	}
	if replacements < 5000 {
		t.Errorf("only %d replacements", replacements)
	}
}

// P13.2: groups that have a span and none, numbers outside 0 to 9, spans that are no part of the text, empty spans, no text.
func TestExpand(t *testing.T) {
	for _, x := range []struct {
		part api.Part
		text string
		s    api.Span
		want string
	}{
		{groupPart(1), "abc", span(0, 3), "abc"},
		{groupPart(1), "abc", span(0, 1), "a"},
		{groupPart(1), "abc", span(1, 2), "b"},
		{groupPart(1), "abc", span(2, 3), "c"},
		{groupPart(1), "abc", noSpan, ""},
		{groupPart(1), "abc", span(0, 0), ""},
		{groupPart(1), "abc", span(1, 1), ""},
		{groupPart(1), "abc", span(3, 3), ""},
		{groupPart(1), "abc", span(4, 4), ""},
		{groupPart(1), "abc", span(2, 1), ""},
		{groupPart(1), "abc", span(3, 0), ""},
		{groupPart(1), "abc", span(-1, 2), ""},
		{groupPart(1), "abc", span(-1, 0), ""},
		{groupPart(1), "abc", span(-2, -1), ""},
		{groupPart(1), "abc", span(0, -1), ""},
		{groupPart(1), "abc", span(0, 4), ""},
		{groupPart(1), "abc", span(2, 4), ""},
		{groupPart(1), "abc", span(3, 4), ""},
		{groupPart(1), "abc", span(4, 5), ""},
		{groupPart(1), "", span(0, 0), ""},
		{groupPart(1), "", span(0, 1), ""},
		{groupPart(1), "", noSpan, ""},
		{groupPart(2), "abc", span(0, 3), ""},
		{textPart("t"), "abc", span(0, 3), "t"},
		{textPart("t"), "abc", noSpan, "t"},
		{textPart("t"), "", span(0, 9), "t"},
		{textPart(""), "abc", span(0, 3), ""},
		{textPart(`&\1\n`), "abc", span(0, 3), `&\1\n`},
	} {
		got := expands(t, []api.Part{x.part}, x.text, hitOf(0, 0, x.s))
		between := expands(t, []api.Part{textPart("<"), x.part, textPart(">")}, x.text, hitOf(0, 0, x.s))
		if got != x.want || between != "<"+x.want+">" {
			t.Errorf("%s of %q with %v: %q, %q; want %q", told([]api.Part{x.part}), x.text, x.s, got, between, x.want)
		}
	}
	var hit api.Hit // all spans are empty, and at the beginning
	if got := expands(t, parsed(t, `a&b\1c\9`), "xyz", hit); got != "abc" {
		t.Errorf("%q", got)
	}
	if got := expands(t, nil, "xyz", hitOf(0, 3)); got != "" {
		t.Errorf("no parts: %q", got)
	}
	for _, l := range [][]api.Part{nil, {}, {groupPart(0)}, {groupPart(1), groupPart(2)}} {
		if b := swap.Expand(l, nil, hitOf(0, 0, span(0, 1))); len(b) != 0 {
			t.Errorf("of no text %s: %q", told(l), b)
		}
	}
	if b := swap.Expand([]api.Part{textPart("t"), groupPart(0), textPart("u")}, nil, hitOf(0, 0)); string(b) != "tu" {
		t.Errorf("of no text: %q", b)
	}
}

// P13.2: each group has its own span, in any order and as often as it is asked for; numbers outside 0 to 9 have none.
func TestExpandGroups(t *testing.T) {
	text := "0123456789"
	var hit api.Hit
	for g := range hit.Spans {
		hit.Spans[g] = span(g, g+1)
	}
	for _, g := range append([]int{0, 1, 2, 3, 4, 5, 6, 7, 8, 9}, ends...) {
		want := ""
		if 0 <= g && g <= 9 {
			want = strconv.Itoa(g)
		}
		if got := expands(t, []api.Part{groupPart(g)}, text, hit); got != want {
			t.Errorf("group %d: %q; want %q", g, got, want)
		}
		if got := expands(t, []api.Part{textPart("a"), groupPart(g), groupPart(g), textPart("b")}, text, hit); got != "a"+want+want+"b" {
			t.Errorf("group %d twice: %q", g, got)
		}
	}
	if got := expands(t, parsed(t, `\9\8-\1&\1`), text, hit); got != "98-101" {
		t.Errorf("%q", got)
	}
	for _, kind := range ends {
		if got := expands(t, []api.Part{textPart("a"), {Kind: kind, Group: 1, B: []byte("x")}, groupPart(1)}, text, hit); got != "a1" {
			t.Errorf("kind %d: %q", kind, got)
		}
	}
}

// P13.2: every span, also far outside, over short texts.
func TestExpandSpans(t *testing.T) {
	places := append([]int{0, 1, 2, 3, 4, 5}, ends...)
	for _, text := range []string{"", "a", "ab", "abc", "\n\xff\x00é"} {
		for _, from := range places {
			for _, to := range places {
				for g := range 10 {
					hit := hitOf(0, 0)
					hit.Spans[g] = span(from, to)
					expands(t, []api.Part{groupPart(g)}, text, hit)
					expands(t, parsed(t, `<\1&\9>`), text, hit)
				}
				replaces(t, parsed(t, "[&]"), text, hitOf(from, to))
			}
		}
	}
}

// P13.2: hits are replaced: none, one, many; at the beginning, at the end, next to each other; those that don't count; those that take no byte.
func TestReplace(t *testing.T) {
	type spans = []api.Span
	for _, x := range []struct {
		to, text string
		hits     spans
		want     string
	}{
		{"x", "abc", nil, "abc"},
		{"x", "", nil, ""},
		{"x", "", spans{span(0, 0)}, "x"},
		{"x", "", spans{span(0, 1)}, ""},
		{"x", "abc", spans{span(0, 1)}, "xbc"},
		{"x", "abc", spans{span(1, 2)}, "axc"},
		{"x", "abc", spans{span(2, 3)}, "abx"},
		{"x", "abc", spans{span(0, 3)}, "x"},
		{"", "abc", spans{span(1, 2)}, "ac"},
		{"", "abc", spans{span(0, 3)}, ""},
		{"&", "abc", spans{span(1, 2)}, "abc"},
		{"&&", "abc", spans{span(0, 2)}, "ababc"},
		{"x", "abc", spans{span(0, 1), span(2, 3)}, "xbx"},
		{"[&]", "abc", spans{span(0, 1), span(1, 2), span(2, 3)}, "[a][b][c]"},
		{"-", "ab", spans{span(0, 0), span(1, 1), span(2, 2)}, "-a-b-"},
		{"x", "baac", spans{span(0, 0), span(1, 3), span(4, 4)}, "xbxcx"},
		{"x", "abc", spans{span(3, 3)}, "abcx"},
		// Of one place, one behind the other.
		{"x", "abc", spans{span(1, 1), span(1, 1), span(1, 1)}, "axxxbc"},
		{"[&]", "abc", spans{span(1, 1), span(1, 2)}, "a[][b]c"},
		{"[&]", "abc", spans{span(0, 1), span(1, 1), span(1, 2)}, "[a][][b]c"},
		{"x", "abc", spans{span(3, 3), span(3, 3)}, "abcxx"},
		{"x", "", spans{span(0, 0), span(0, 0)}, "xx"},
		{"[&]", "abc", spans{span(1, 2), span(1, 1)}, "a[b]c"},
		{"[&]", "abc", spans{span(0, 0), span(0, 3), span(3, 3)}, "[][abc][]"},
		// No part of the text.
		{"x", "abc", spans{noSpan}, "abc"},
		{"x", "abc", spans{span(-1, 1)}, "abc"},
		{"x", "abc", spans{span(2, 1)}, "abc"},
		{"x", "abc", spans{span(2, 4)}, "abc"},
		{"x", "abc", spans{span(4, 4)}, "abc"},
		{"x", "abc", spans{span(3, 4)}, "abc"},
		{"[&]", "abc", spans{noSpan, span(1, 2), span(2, 9), span(2, 3)}, "a[b][c]"},
		// Ahead of the end of one ahead, that counted or didn't.
		{"[&]", "abcd", spans{span(0, 2), span(1, 3)}, "[ab]cd"},
		{"[&]", "abcd", spans{span(0, 2), span(0, 2)}, "[ab]cd"},
		{"[&]", "abcd", spans{span(0, 2), span(1, 1)}, "[ab]cd"},
		{"[&]", "abcd", spans{span(0, 2), span(1, 3), span(2, 4)}, "[ab][cd]"},
		{"[&]", "abcd", spans{span(0, 2), span(1, 4), span(3, 4)}, "[ab]c[d]"},
		{"[&]", "abcd", spans{span(0, 9), span(1, 2)}, "a[b]cd"},
		{"[&]", "abcd", spans{span(3, 2), span(1, 2)}, "a[b]cd"},
		{"[&]", "abcd", spans{span(-1, 4), span(0, 1)}, "[a]bcd"},
		{"[&]", "abcd", spans{span(1, 3), span(5, 5), span(2, 3), span(3, 4)}, "a[bc][d]"},
		{"[&]", "abcd", spans{span(0, 4), span(1, 2), span(2, 3), span(4, 4)}, "[abcd][]"},
		// Out of order.
		{"[&]", "abcd", spans{span(2, 3), span(0, 1)}, "ab[c]d"},
		{"[&]", "abcd", spans{span(3, 4), span(1, 2), span(0, 1)}, "abc[d]"},
		{"[&]", "abcd", spans{span(1, 2), span(0, 1), span(2, 3)}, "a[b][c]d"},
		{"[&]", "abcd", spans{span(4, 4), span(0, 4)}, "abcd[]"},
		{"\\n", "a b", spans{span(1, 2)}, "a\nb"},
		{"\\&\\\\", "a\nb", spans{span(1, 2)}, `a&\b`},
	} {
		var hits []api.Hit
		for _, s := range x.hits {
			hits = append(hits, hitOf(s.From, s.To))
		}
		if got := replaces(t, parsed(t, x.to), x.text, hits...); got != x.want {
			t.Errorf("%q, %q, %v: %q; want %q", x.to, x.text, x.hits, got, x.want)
		}
	}
	if got := replaces(t, nil, "abc", hitOf(1, 2)); got != "ac" {
		t.Errorf("no parts: %q", got)
	}
	if b := swap.Replace(parsed(t, "[&]"), nil, hitOf(0, 0), hitOf(0, 1), hitOf(0, 0)); string(b) != "[][]" {
		t.Errorf("no text: %q", b)
	}
	if b := swap.Replace(nil, nil); len(b) != 0 {
		t.Errorf("nothing: %q", b)
	}
}

// P13.2: groups are those of each hit by itself, wherever in the text their spans are.
func TestReplaceGroups(t *testing.T) {
	l := parsed(t, `<\2\1>`)
	got := replaces(t, l, "k=v, x=y", hitOf(0, 3, span(0, 1), span(2, 3)), hitOf(5, 8, span(5, 6), span(7, 8)))
	if got != "<vk>, <yx>" {
		t.Errorf("%q", got)
	}
	got = replaces(t, l, "abcd", hitOf(1, 2, span(3, 4), span(0, 2)), hitOf(2, 3, span(0, 9)), hitOf(3, 4, noSpan, span(0, 0)))
	if got != "a<abd><><>" {
		t.Errorf("%q", got)
	}
}

// P13.2: every row of up to three spans over short texts.
func TestReplaceShort(t *testing.T) {
	bracketed, bytesAlone := parsed(t, `[&\1]`), parsed(t, "xy")
	for _, text := range []string{"", "a", "ab", "abc"} {
		var all []api.Hit
		for from := -1; from <= len(text)+1; from++ {
			for to := -1; to <= len(text)+1; to++ {
				all = append(all, hitOf(from, to, span(to, from)))
			}
		}
		for _, a := range all {
			replaces(t, bracketed, text, a)
			for _, b := range all {
				replaces(t, bytesAlone, text, a, b)
				for _, c := range all {
					replaces(t, bracketed, text, a, b, c)
				}
			}
		}
	}
}

// P13.2: texts, parts and hits that seem to have no order.
func TestSomeReplacements(t *testing.T) {
	x := numbers(2)
	for range 20000 {
		text := string(x.bytesOf("ab\\&\n\xff", 8))
		var l []api.Part
		for range x.Intn(5) {
			l = append(l, api.Part{Kind: x.Intn(4) - 1, Group: x.Intn(13) - 1, B: x.bytesOf("xy&\\\n", 3)})
		}
		var hits []api.Hit
		for range x.Intn(6) {
			var hit api.Hit
			for g := range hit.Spans {
				hit.Spans[g].From = x.Intn(len(text)+3) - 1
				hit.Spans[g].To = hit.Spans[g].From + x.Intn(4) - 1
			}
			hits = append(hits, hit)
			expands(t, l, text, hit)
		}
		replaces(t, l, text, hits...)
		slices.SortFunc(hits, func(a, b api.Hit) int { return a.Spans[0].From - b.Spans[0].From })
		replaces(t, l, text, hits...)
	}
}

// P13.2: parts that are the same, and that differ in kind, in text, in group, in number; nil and empty.
func TestSame(t *testing.T) {
	a, b, g, h := textPart("a"), textPart("b"), groupPart(1), groupPart(2)
	for _, x := range []struct {
		one, two []api.Part
		want     bool
	}{
		{nil, nil, true},
		{nil, []api.Part{}, true},
		{[]api.Part{a}, []api.Part{a}, true},
		{[]api.Part{g}, []api.Part{g}, true},
		{[]api.Part{a, g, b}, []api.Part{a, g, b}, true},
		{[]api.Part{a}, nil, false},
		{[]api.Part{g}, nil, false},
		{[]api.Part{textPart("")}, nil, false},
		{[]api.Part{groupPart(0)}, nil, false},
		{[]api.Part{a}, []api.Part{b}, false},
		{[]api.Part{a}, []api.Part{textPart("A")}, false},
		{[]api.Part{a}, []api.Part{textPart("aa")}, false},
		{[]api.Part{a}, []api.Part{textPart("a\x00")}, false},
		{[]api.Part{a}, []api.Part{textPart("")}, false},
		{[]api.Part{textPart("\xff")}, []api.Part{textPart("\xfe")}, false},
		{[]api.Part{g}, []api.Part{h}, false},
		{[]api.Part{g}, []api.Part{groupPart(0)}, false},
		{[]api.Part{groupPart(-1)}, []api.Part{groupPart(10)}, false},
		{[]api.Part{groupPart(10)}, []api.Part{groupPart(10)}, true},
		{[]api.Part{a}, []api.Part{g}, false},
		{[]api.Part{textPart("")}, []api.Part{groupPart(0)}, false},
		{[]api.Part{a, b}, []api.Part{b, a}, false},
		{[]api.Part{a, b}, []api.Part{textPart("ab")}, false},
		{[]api.Part{a, g}, []api.Part{a}, false},
		{[]api.Part{a, g}, []api.Part{g}, false},
		{[]api.Part{a, g}, []api.Part{a, h}, false},
		{[]api.Part{a, g}, []api.Part{b, g}, false},
		{[]api.Part{a, g}, []api.Part{g, a}, false},
		{[]api.Part{a, g, b}, []api.Part{a, g, a}, false},
		{[]api.Part{a, g, b}, []api.Part{a, g, b, g}, false},
		{[]api.Part{g, g}, []api.Part{g}, false},
		{[]api.Part{{Kind: api.PText}}, []api.Part{textPart("")}, true},
		{[]api.Part{{Kind: api.PGroup, Group: 1, B: []byte{}}}, []api.Part{g}, true},
		{[]api.Part{{Kind: 2}}, []api.Part{{Kind: 2}}, true},
		{[]api.Part{{Kind: 2}}, []api.Part{{Kind: 3}}, false},
		{[]api.Part{{Kind: 2, B: []byte("a")}}, []api.Part{a}, false},
		{[]api.Part{{Kind: -1, Group: 1}}, []api.Part{g}, false},
		{[]api.Part{{Kind: api.PText, Group: 1, B: []byte("a")}}, []api.Part{{Kind: api.PText, Group: 1, B: []byte("b")}}, false},
		{[]api.Part{{Kind: api.PGroup, Group: 1, B: []byte("a")}}, []api.Part{{Kind: api.PGroup, Group: 2, B: []byte("a")}}, false},
		{[]api.Part{{Kind: api.PText, Group: 1, B: []byte("a")}}, []api.Part{{Kind: api.PGroup, Group: 1, B: []byte("a")}}, false},
		// What a part has beside what its kind asks for is the part's, too.
		{[]api.Part{{Kind: api.PText, Group: 1, B: []byte("a")}}, []api.Part{a}, false},
		{[]api.Part{{Kind: api.PText, Group: -1, B: []byte("a")}}, []api.Part{{Kind: api.PText, Group: 1, B: []byte("a")}}, false},
		{[]api.Part{{Kind: api.PText, Group: 1, B: []byte("a")}}, []api.Part{{Kind: api.PText, Group: 1, B: []byte("a")}}, true},
		{[]api.Part{{Kind: api.PGroup, Group: 1, B: []byte("a")}}, []api.Part{g}, false},
		{[]api.Part{{Kind: api.PGroup, Group: 1, B: []byte("a")}}, []api.Part{{Kind: api.PGroup, Group: 1, B: []byte("b")}}, false},
		{[]api.Part{{Kind: api.PGroup, Group: 1, B: []byte("a")}}, []api.Part{{Kind: api.PGroup, Group: 1, B: []byte("a")}}, true},
		{[]api.Part{{Kind: api.PGroup, B: []byte("\x00")}}, []api.Part{groupPart(0)}, false},
		{[]api.Part{{Kind: 2, Group: 1, B: []byte("a")}}, []api.Part{{Kind: 2, Group: 1}}, false},
		{[]api.Part{{Kind: 2, Group: 1, B: []byte("a")}}, []api.Part{{Kind: 2, Group: 2, B: []byte("a")}}, false},
		{[]api.Part{{Kind: 2, Group: 1, B: []byte("a")}}, []api.Part{{Kind: 2, Group: 1, B: []byte("a")}}, true},
	} {
		same(t, x.one, x.two, x.want)
		same(t, clone(x.one), clone(x.two), x.want)
	}
	for c := range 256 {
		for d := range 256 {
			same(t, []api.Part{textPart(string([]byte{'a', byte(c)}))}, []api.Part{textPart(string([]byte{'a', byte(d)}))}, c == d)
		}
	}
	for _, m := range ends {
		for _, n := range ends {
			same(t, []api.Part{groupPart(m)}, []api.Part{groupPart(n)}, m == n)
		}
	}
}

// variedParts are parts of each kind, and of none, with each of a few groups, and each of a few rows of bytes.
func variedParts() []api.Part {
	var all []api.Part
	for _, kind := range []int{api.PText, api.PGroup, 2, -1, 257} {
		for _, g := range []int{0, 1, 2, 9, 10, -1, 256, 1 << 32} {
			for _, b := range [][]byte{nil, {}, {0}, []byte("a"), []byte("b"), []byte("ab"), []byte("\xff")} {
				all = append(all, api.Part{Kind: kind, Group: g, B: b})
			}
		}
	}
	return all
}

// P13.2: parts that differ in the kind alone, in the group alone, in the bytes alone, in any of these, aren't the same, whatever their kinds ask for; alone, among others, and twice.
func TestSameInAll(t *testing.T) {
	for _, p := range variedParts() {
		for _, q := range variedParts() {
			want := p.Kind == q.Kind && p.Group == q.Group && string(p.B) == string(q.B)
			same(t, []api.Part{p}, []api.Part{q}, want)
			same(t, []api.Part{p, textPart("a")}, []api.Part{q, textPart("a")}, want)
			same(t, []api.Part{groupPart(2), p}, []api.Part{groupPart(2), q}, want)
			same(t, []api.Part{groupPart(1), p, textPart("a")}, []api.Part{groupPart(1), q, textPart("a")}, want)
			same(t, []api.Part{p, q}, []api.Part{q, p}, want)
			same(t, []api.Part{p, p}, []api.Part{p, q}, want)
		}
	}
}

// P13.2: lists of a few parts, of which one differs in one thing, or none does.
func TestSameLists(t *testing.T) {
	x, all := numbers(42), variedParts()
	for range 20000 {
		var l []api.Part
		for range 1 + x.Intn(5) {
			l = append(l, all[x.Intn(len(all))])
		}
		same(t, l, clone(l), true)
		other := clone(l)
		p := &other[x.Intn(len(other))]
		[]func(){
			func() { p.Kind += 1 + x.Intn(3) },
			func() { p.Group += 1 + x.Intn(3) },
			func() { p.B = append(p.B, byte(x.Intn(256))) },
		}[x.Intn(3)]()
		same(t, l, other, false)
	}
}

// P13.2: parts are the same just if they are told alike, of all short texts of a few bytes.
func TestSameShortTexts(t *testing.T) {
	var all [][]api.Part
	for _, s := range shortTexts(`\&1a`, 4) {
		if l, _, e := swap.Parse([]byte(s), 1); e == api.OK {
			all = append(all, l)
		}
	}
	for _, a := range all {
		for _, b := range all {
			same(t, a, b, told(a) == told(b))
		}
	}
}

// P13.1 to P13.3, over the layers below: what is found is replaced.
func TestFound(t *testing.T) {
	for _, x := range []struct{ re, to, text, want string }{
		{`a*`, "x", "baac", "xbxcx"},
		{`(.)(.)`, `\2\1`, "abcde", "badce"},
		{`(a)|b`, `<\1>`, "ab", "<a><>"},
		{`,`, `\n`, "a,b,,c", "a\nb\n\nc"},
		{`$`, `&!`, "ab", "ab!"},
		{`^`, `> `, "", "> "},
		{`q`, `z`, "ab", "ab"},
	} {
		re, _, e := retext.Parse([]byte(x.re), true)
		hits, _, e2 := find.All(re, []byte(x.text), 10000)
		l, _, e3 := swap.Parse([]byte(x.to), re.Groups)
		if e != api.OK || e2 != api.OK || e3 != api.OK {
			t.Fatal(x.re, e, e2, e3)
		}
		if got := replaces(t, l, x.text, hits...); got != x.want {
			t.Errorf("%q, %q, %q: %q; want %q", x.re, x.to, x.text, got, x.want)
		}
	}
}

// P13.1 to P13.3: long texts, many parts, many hits.
func TestLong(t *testing.T) {
	long := strings.Repeat("ab\n&\\\xff", 20000)
	written(t, []api.Part{textPart(long), groupPart(9), textPart(long)})
	var l []api.Part
	for g := range 5000 {
		l = append(l, groupPart(g%10), textPart(long[g:g+3]))
	}
	written(t, l)
	parses(t, strings.Repeat(`a\n`, 30000)+`\`, 9, nil, 90000, api.ErrEscape)
	parses(t, strings.Repeat("&", 5000)+`\3`, 2, nil, 5000, api.ErrBack)
	text := strings.Repeat("ab", 30000)
	var hits []api.Hit
	for at := 0; at < len(text); at += 2 {
		hits = append(hits, hitOf(at, at+1, span(at+1, at+2)))
	}
	if got := swap.Replace(parsed(t, `<\1&>`), []byte(text), hits...); string(got) != strings.Repeat("<ba>b", 30000) {
		t.Errorf("%.99q, of %d bytes", got, len(got))
	}
	if got := swap.Expand(parsed(t, strings.Repeat("&", 20)), []byte(text), hitOf(0, len(text))); string(got) != strings.Repeat(text, 20) {
		t.Errorf("%.99q, of %d bytes", got, len(got))
	}
}

// P1: arguments of any sort: each call ends, and none panics.
func TestAnyArgument(t *testing.T) {
	x := numbers(7)
	all := append([]int{0, 1, 2, 3, 4, 9}, ends...)
	one := func() int { return all[x.Intn(len(all))] }
	for range 20000 {
		b := x.bytesOf("\\&n\n0123456789\x00\xff", 6)
		swap.Parse(b, one())
		var l, m []api.Part
		for range x.Intn(5) {
			l = append(l, api.Part{Kind: one(), Group: one(), B: b})
			m = append(m, api.Part{Kind: one(), Group: one()})
		}
		var hits []api.Hit
		for range x.Intn(4) {
			var hit api.Hit
			for g := range hit.Spans {
				hit.Spans[g] = span(one(), one())
			}
			hits = append(hits, hit)
			expands(t, l, string(b), hit)
		}
		swap.Text(l)
		swap.Text(m)
		swap.Same(l, m)
		replaces(t, l, string(b), hits...)
		replaces(t, m, string(b), hits...)
	}
}

// behind is b with bytes behind its end in its memory.
func behind(b string) []byte { return append(make([]byte, 0, len(b)+16), b+`\\1&z\1`...)[:len(b)] }

// R4: what lies behind a list's end plays no part, and stays.
func TestBehindTheEnd(t *testing.T) {
	b := behind(`a&\`)
	if l, at, e := swap.Parse(b, 9); len(l) != 0 || at != 2 || e != api.ErrEscape {
		t.Errorf("Parse: %s, %d, %v", told(l), at, e)
	}
	text := behind("abc")
	l := append(make([]api.Part, 0, 9), api.Part{Kind: api.PText, B: behind("x")}, groupPart(1), textPart("behind"))[:2]
	hits := append(make([]api.Hit, 0, 9), hitOf(1, 2, span(0, 1)), hitOf(2, 4), hitOf(2, 3))[:2]
	if got := swap.Replace(l, text, hits...); string(got) != "axac" {
		t.Errorf("Replace: %q", got)
	}
	if got := swap.Expand(l, text, hitOf(1, 4, span(3, 4))); string(got) != "x" {
		t.Errorf("Expand: %q", got)
	}
	written(t, l)
	same(t, l, []api.Part{textPart("x"), groupPart(1)}, true)
	for _, kept := range [][]byte{b, text, l[0].B} {
		if rest := kept[len(kept) : len(kept)+7]; string(rest) != `\\1&z\1` {
			t.Errorf("behind the end: %q", rest)
		}
	}
	if l[:3][2].Kind != api.PText || string(l[:3][2].B) != "behind" || hits[:3][2] != hitOf(2, 3) {
		t.Error("what lies behind the lists' ends was changed")
	}
}

// fill writes over b, and over the memory behind its end.
func fill(b []byte) {
	for at := range b[:cap(b)] {
		b[:cap(b)][at] = '#'
	}
}

// R4: what is answered may be written over: neither what was handed in changes by it, nor the rest of the answer, nor a later answer.
func TestAnswersStandAlone(t *testing.T) {
	s := `ab&c\nd\1\\e&`
	b := []byte(s)
	l, _, _ := swap.Parse(b, 9)
	want := told(l)
	for i := range l {
		other := clone(l)
		fill(l[i].B)
		l[i] = other[i]
		if told(l) != want || string(b) != s {
			t.Fatalf("part %d: %s; %q", i, told(l), b)
		}
	}
	fill(b)
	if told(l) != want {
		t.Fatalf("the text was written over: %s", told(l))
	}
	was, text, hit := clone(l), []byte("xyz"), hitOf(1, 2, span(0, 3))
	for _, answer := range []func() []byte{
		func() []byte { return swap.Text(l) },
		func() []byte { return swap.Text(l[:1]) },
		func() []byte { return swap.Expand(l, text, hit) },
		func() []byte { return swap.Expand(l[:1], text, hit) },
		func() []byte { return swap.Expand(l[1:2], text, hit) },
		func() []byte { return swap.Replace(l, text, hit, hit) },
		func() []byte { return swap.Replace(l, text) },
		func() []byte { return swap.Replace(l[1:2], text, hitOf(0, 3)) },
		func() []byte { return swap.Replace(l[:1], text, hitOf(0, 3)) },
	} {
		first := answer()
		before := string(first)
		fill(first)
		if again := answer(); string(again) != before || told(l) != told(was) || string(text) != "xyz" {
			t.Errorf("%q, then %q; %s; %q", before, again, told(l), text)
		}
	}
}

// R6: the same call has the same answer, each time, whatever was asked between.
func TestSameAnswer(t *testing.T) {
	first := map[string]string{}
	for range 3 {
		for _, s := range shortTexts(`\&1a`, 4) {
			l, at, e := swap.Parse([]byte(s), 0)
			m, _, _ := swap.Parse([]byte(s), 1)
			hit := hitOf(0, 1, span(1, 2))
			answer := told(l) + strconv.Itoa(at) + e.Error() + string(swap.Text(m)) + string(swap.Expand(m, []byte("xy"), hit)) + string(swap.Replace(m, []byte("xy"), hit, hit, hitOf(2, 2)))
			if was, ok := first[s]; ok && was != answer {
				t.Errorf("%q: %q, then %q", s, was, answer)
			}
			first[s] = answer
		}
	}
}
