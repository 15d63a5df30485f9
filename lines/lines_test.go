package lines_test

import (
	"bytes"
	"math"
	"slices"
	"strconv"
	"strings"
	"testing"

	"palinode/api"
	"palinode/lines"
)

// l is a line with a newline, bare one without.
func l(s string) api.Line    { return api.Line{B: []byte(s), NL: true} }
func bare(s string) api.Line { return api.Line{B: []byte(s)} }

func same(a, b api.Line) bool { return bytes.Equal(a.B, b.B) && a.NL == b.NL }

// told shows lines: each quoted, with a $ behind it where it lacks a newline.
func told(l ...api.Line) string {
	var b strings.Builder
	for _, x := range l {
		b.WriteString(" " + strconv.Quote(string(x.B)))
		if !x.NL {
			b.WriteByte('$')
		}
	}
	return b.String()
}

// none tells whether an answer is a line's zero value.
func none(x api.Line) bool { return x.B == nil && !x.NL }

// allBytes holds each byte once, the newline among them.
func allBytes() string {
	var b strings.Builder
	for c := range 256 {
		b.WriteByte(byte(c))
	}
	return b.String()
}

type text struct {
	s    string
	want []api.Line
}

// someTexts are ordinary texts and the edges, with their lines told by hand.
func someTexts() []text {
	every := allBytes()
	return []text{
		{"", nil},
		{"\n", []api.Line{l("")}},
		{"\n\n", []api.Line{l(""), l("")}},
		{"\n\n\n", []api.Line{l(""), l(""), l("")}},
		{"a", []api.Line{bare("a")}},
		{"a\n", []api.Line{l("a")}},
		{"\na", []api.Line{l(""), bare("a")}},
		{"a\nb", []api.Line{l("a"), bare("b")}},
		{"a\nb\n", []api.Line{l("a"), l("b")}},
		{"a\n\n", []api.Line{l("a"), l("")}},
		{"a\n\nb", []api.Line{l("a"), l(""), bare("b")}},
		{"\n\na\n", []api.Line{l(""), l(""), l("a")}},
		{"one two\n\tthree \nfour", []api.Line{l("one two"), l("\tthree "), bare("four")}},
		{" \n ", []api.Line{l(" "), bare(" ")}},
		{"a\r\nb\r", []api.Line{l("a\r"), bare("b\r")}},
		{"\x00\n\xff\n\x00", []api.Line{l("\x00"), l("\xff"), bare("\x00")}},
		{"a\\nb\v\f\u0085\u2028", []api.Line{bare("a\\nb\v\f\u0085\u2028")}},
		{every, []api.Line{l(every[:10]), bare(every[11:])}},
	}
}

// shortTexts are all texts of at most that many bytes, each of them one of those of of.
func shortTexts(of string, most int) []string {
	all := []string{""}
	for from := 0; most > 0; most-- {
		end := len(all)
		for _, s := range all[from:end] {
			for _, c := range []byte(of) {
				all = append(all, s+string([]byte{c}))
			}
		}
		from = end
	}
	return all
}

// slowLines tells the lines of s byte by byte.
func slowLines(s string) []api.Line {
	var all []api.Line
	var b []byte
	for i := range len(s) {
		if s[i] == '\n' {
			all = append(all, api.Line{B: b, NL: true})
			b = nil
		} else {
			b = append(b, s[i])
		}
	}
	if len(b) > 0 {
		all = append(all, api.Line{B: b})
	}
	return all
}

func checkText(t *testing.T, s string, want []api.Line) {
	t.Helper()
	b := []byte(s)
	if got := lines.Split(b); !slices.EqualFunc(got, want, same) {
		t.Errorf("Split(%.60q) =%.200s; want%.200s", s, told(got...), told(want...))
	}
	if got := lines.Count(b); got != len(want) {
		t.Errorf("Count(%.60q) = %d; want %d", s, got, len(want))
	}
	for n := -2; n <= len(want)+3; n++ {
		got, ok := lines.Nth(b, n)
		if is := n >= 1 && n <= len(want); is != ok || is && !same(got, want[n-1]) || !is && !none(got) {
			t.Errorf("Nth(%.60q, %d) =%.200s, %v", s, n, told(got), ok)
		}
	}
	if got := lines.Join(lines.Split(b)...); string(got) != s {
		t.Errorf("Join(Split(%.60q)) = %.60q", s, got)
	}
	if string(b) != s {
		t.Errorf("the text %.60q was changed to %.60q", s, b)
	}
}

// P2.1: all lines, how many, and the n-th; P2.2: Join of what Split tells is the text.
func TestTexts(t *testing.T) {
	for _, x := range someTexts() {
		checkText(t, x.s, x.want)
	}
}

// P2.1, P2.2: likewise of every short text, held against lines that are told byte by byte.
func TestEveryShortText(t *testing.T) {
	for _, s := range shortTexts("a\n\xff", 7) {
		checkText(t, s, slowLines(s))
	}
}

// P2.1: Cut from each place, on a newline and amidst a line, too, and from each place outside.
func TestCut(t *testing.T) {
	for _, x := range []struct {
		s    string
		at   int
		want api.Line
		next int
	}{
		{"ab\ncd", 0, l("ab"), 3},
		{"ab\ncd", 1, l("b"), 3},
		{"ab\ncd", 2, l(""), 3},
		{"ab\ncd", 3, bare("cd"), 5},
		{"ab\ncd", 4, bare("d"), 5},
		{"ab\ncd\n", 3, l("cd"), 6},
		{"ab\ncd\n", 5, l(""), 6},
		{"\n", 0, l(""), 1},
		{"\n\n\n", 0, l(""), 1},
		{"\n\n\n", 1, l(""), 2},
		{"\n\n\n", 2, l(""), 3},
		{"x", 0, bare("x"), 1},
		{"a\r\nb", 0, l("a\r"), 3},
		{"\x00\xff\n\x00", 1, l("\xff"), 3},
		{"\x00\xff\n\x00", 3, bare("\x00"), 4},
	} {
		got, next, ok := lines.Cut([]byte(x.s), x.at)
		if !ok || next != x.next || !same(got, x.want) {
			t.Errorf("Cut(%q, %d) =%s, %d, %v; want%s, %d, true", x.s, x.at, told(got), next, ok, told(x.want), x.next)
		}
	}
}

// P2.1: Cut answers false below 0 and at and beyond the end.
func TestCutOutside(t *testing.T) {
	for _, s := range []string{"", "\n", "a", "a\n", "ab\ncd", "\n\n"} {
		for _, at := range []int{-1, -2, math.MinInt, len(s), len(s) + 1, math.MaxInt} {
			if got, next, ok := lines.Cut([]byte(s), at); ok || next != 0 || !none(got) {
				t.Errorf("Cut(%q, %d) =%s, %d, %v", s, at, told(got), next, ok)
			}
		}
	}
}

// P2.1: from every place of every short text, Cut tells the first line of what stands from there on.
func TestCutEverywhere(t *testing.T) {
	for _, s := range shortTexts("a\n", 8) {
		for at := range len(s) {
			want := slowLines(s[at:])[0]
			end := at + len(want.B)
			if want.NL {
				end++
			}
			if got, next, ok := lines.Cut([]byte(s), at); !ok || next != end || !same(got, want) {
				t.Errorf("Cut(%q, %d) =%s, %d, %v; want%s, %d, true", s, at, told(got), next, ok, told(want), end)
			}
		}
	}
}

// P2.1: gone through by Cut, place by place, a text has just the lines that Split tells.
func TestCutGoesThrough(t *testing.T) {
	for _, s := range shortTexts("a\n", 8) {
		var got []api.Line
		at := 0
		for x, next, ok := lines.Cut([]byte(s), 0); ok; x, next, ok = lines.Cut([]byte(s), next) {
			got = append(got, x)
			at = next
		}
		if at != len(s) || !slices.EqualFunc(got, lines.Split([]byte(s)), same) {
			t.Errorf("by Cut %q has the lines%s and ends at %d", s, told(got...), at)
		}
	}
}

// P2.1: no bytes have no lines.
func TestNoBytes(t *testing.T) {
	if got := lines.Split(nil); len(got) != 0 {
		t.Errorf("Split(nil) =%s", told(got...))
	}
	if got := lines.Count(nil); got != 0 {
		t.Errorf("Count(nil) = %d", got)
	}
	for _, n := range []int{-1, 0, 1, 2} {
		if got, ok := lines.Nth(nil, n); ok || !none(got) {
			t.Errorf("Nth(nil, %d) =%s, %v", n, told(got), ok)
		}
		if got, next, ok := lines.Cut(nil, n); ok || next != 0 || !none(got) {
			t.Errorf("Cut(nil, %d) =%s, %d, %v", n, told(got), next, ok)
		}
	}
}

// P2.1: Nth counts from 1 on, and answers false of any number that isn't a line's, however great.
func TestNthOutside(t *testing.T) {
	for _, s := range []string{"", "\n", "a", "a\n", "a\nb", "a\nb\n"} {
		count := lines.Count([]byte(s))
		for _, n := range []int{math.MinInt, -1, 0, count + 1, count + 2, 1 << 32, math.MaxInt} {
			if got, ok := lines.Nth([]byte(s), n); ok || !none(got) {
				t.Errorf("Nth(%q, %d) =%s, %v", s, n, told(got), ok)
			}
		}
	}
}

// P2.2: Join writes any lines: none, such as hold newlines, and such as lack theirs ahead of others.
func TestJoin(t *testing.T) {
	for _, x := range []struct {
		l    []api.Line
		want string
	}{
		{nil, ""},
		{[]api.Line{}, ""},
		{[]api.Line{{}}, ""},
		{[]api.Line{{}, {}}, ""},
		{[]api.Line{{NL: true}}, "\n"},
		{[]api.Line{{NL: true}, {}, {NL: true}}, "\n\n"},
		{[]api.Line{bare("a")}, "a"},
		{[]api.Line{l("a")}, "a\n"},
		{[]api.Line{bare("a"), bare("b")}, "ab"},
		{[]api.Line{bare("a"), l("b"), bare("c")}, "ab\nc"},
		{[]api.Line{l("a"), l(""), l("b")}, "a\n\nb\n"},
		{[]api.Line{l("a\n"), bare("\nb\n"), bare("")}, "a\n\n\nb\n"},
		{[]api.Line{l("\x00\xff"), bare(allBytes())}, "\x00\xff\n" + allBytes()},
	} {
		if got := lines.Join(x.l...); string(got) != x.want {
			t.Errorf("Join(%s ) = %q; want %q", told(x.l...), got, x.want)
		}
	}
	if got := lines.Join(); len(got) != 0 {
		t.Errorf("Join of nothing = %q", got)
	}
	if got := lines.Join(bare("x"), l(""), bare("y")); string(got) != "x\ny" {
		t.Errorf("Join of lines told one by one = %q", got)
	}
}

// P2.1, P2.2: long lines, and more lines than any limit of api.
func TestGreatTexts(t *testing.T) {
	long := strings.Repeat("x", 2*api.MaxText)
	checkText(t, long+"\n"+long, []api.Line{l(long), bare(long)})

	const count = 100000
	many := []byte(strings.Repeat("\nab", count))
	all := lines.Split(many)
	if len(all) != count+1 || lines.Count(many) != count+1 || !bytes.Equal(lines.Join(all...), many) {
		t.Errorf("%d lines, counted %d", len(all), lines.Count(many))
	}
	if x, ok := lines.Nth(many, count); !ok || !same(x, l("ab")) {
		t.Errorf("Nth(%d) =%s, %v", count, told(x), ok)
	}
	if x, ok := lines.Nth(many, count+1); !ok || !same(x, bare("ab")) {
		t.Errorf("Nth(%d) =%s, %v", count+1, told(x), ok)
	}
	if x, ok := lines.Nth(many, count+2); ok || !none(x) {
		t.Errorf("Nth(%d) =%s, %v", count+2, told(x), ok)
	}
}

// R4: what stands behind a list's length in its memory is neither read nor written.
func TestNothingBehindTheLength(t *testing.T) {
	whole := []byte("ab\ncd\n")
	b := whole[:4]
	if got := lines.Split(b); !slices.EqualFunc(got, []api.Line{l("ab"), bare("c")}, same) {
		t.Errorf("Split =%s", told(got...))
	}
	if got := lines.Count(b); got != 2 {
		t.Errorf("Count = %d", got)
	}
	if got, ok := lines.Nth(b, 2); !ok || !same(got, bare("c")) {
		t.Errorf("Nth =%s, %v", told(got), ok)
	}
	if got, next, ok := lines.Cut(b, 3); !ok || next != 4 || !same(got, bare("c")) {
		t.Errorf("Cut =%s, %d, %v", told(got), next, ok)
	}
	if got, next, ok := lines.Cut(b, 4); ok || next != 0 || !none(got) {
		t.Errorf("Cut at the end =%s, %d, %v", told(got), next, ok)
	}
	parts := []api.Line{{B: whole[:1], NL: true}, {B: whole[3:4], NL: true}, l("z")}
	if got := lines.Join(parts[:2]...); string(got) != "a\nc\n" {
		t.Errorf("Join = %q", got)
	}
	if string(whole) != "ab\ncd\n" || !same(parts[2], l("z")) {
		t.Errorf("what was handed in was changed: %q,%s", whole, told(parts...))
	}
}

// R4: whoever asked may write over an answer, and add to it: nothing else changes.
func TestAnswersAreNewMemory(t *testing.T) {
	const s = "ab\ncd\n\nef"
	want := slowLines(s)
	b := []byte(s)
	spoil := func(x api.Line) {
		for i := range x.B {
			x.B[i] = '#'
		}
		_ = append(x.B, "####"...)
	}
	first := lines.Split(b)
	for i, x := range first {
		spoil(x)
		if !slices.EqualFunc(first[i+1:], want[i+1:], same) {
			t.Errorf("behind line %d, written over, stand%s", i, told(first[i+1:]...))
		}
		one, _ := lines.Nth(b, i+1)
		spoil(one)
	}
	x, _, _ := lines.Cut(b, 3)
	spoil(x)
	if string(b) != s || !slices.EqualFunc(lines.Split(b), want, same) {
		t.Errorf("the text became %q", b)
	}
}

// R4: what was answered keeps to itself, whatever becomes of what was handed in.
func TestAnswersKeepToThemselves(t *testing.T) {
	b := []byte("ab\ncd")
	all := lines.Split(b)
	nth, _ := lines.Nth(b, 2)
	x, _, _ := lines.Cut(b, 1)
	parts := []api.Line{l("p"), bare("q")}
	joined := lines.Join(parts...)
	alone := []api.Line{bare("r")}
	one := lines.Join(alone...)
	for i := range b {
		b[i] = '\n'
	}
	parts[0].B[0], parts[1].B[0], alone[0].B[0] = '#', '#', '#'
	if !slices.EqualFunc(all, []api.Line{l("ab"), bare("cd")}, same) || !same(nth, bare("cd")) || !same(x, l("b")) {
		t.Errorf("the lines became%s,%s,%s", told(all...), told(nth), told(x))
	}
	if string(joined) != "p\nq" || string(one) != "r" {
		t.Errorf("what was joined became %q, %q", joined, one)
	}
	joined[0], one[0] = '!', '!'
	if parts[0].B[0] != '#' || alone[0].B[0] != '#' {
		t.Errorf("the parts became%s,%s", told(parts...), told(alone...))
	}
}

// R6: the same call has the same answer, each time.
func TestOneAnswer(t *testing.T) {
	b := []byte("a\n\nb")
	for range 3 {
		if !slices.EqualFunc(lines.Split(b), slowLines("a\n\nb"), same) || lines.Count(b) != 3 {
			t.Fatalf("Split =%s, Count = %d", told(lines.Split(b)...), lines.Count(b))
		}
	}
}
