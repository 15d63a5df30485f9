package swap_test

import (
	"bytes"
	"math"
	"strconv"
	"strings"
	"testing"

	"palinode/api"
	"palinode/swap"
)

// numbers are a row of numbers that is the same each time, and seems to have no order.
type numbers uint64

// Intn tells the next number, from 0 to n - 1.
func (x *numbers) Intn(n int) int {
	*x = *x*6364136223846793005 + 1442695040888963407
	return int(*x>>33) % n
}

// bytesOf tells at most that many bytes, each of them one of those of of.
func (x *numbers) bytesOf(of string, most int) []byte {
	b := make([]byte, x.Intn(most+1))
	for at := range b {
		b[at] = of[x.Intn(len(of))]
	}
	return b
}

// ends are numbers far below and far above all that the chapter names.
var ends = []int{math.MinInt, math.MinInt + 1, -1 << 32, -257, -2, -1, 10, 11, 255, 256, 257, 265, 1 << 32, 1<<32 + 1, math.MaxInt - 1, math.MaxInt}

// allBytes holds each byte once.
func allBytes() string {
	var b strings.Builder
	for c := range 256 {
		b.WriteByte(byte(c))
	}
	return b.String()
}

// shortTexts are all texts of at most that many bytes, each of them one of those of of.
func shortTexts(of string, most int) []string {
	all := []string{""}
	for from := 0; most > 0; most-- {
		end := len(all)
		for _, s := range all[from:end] {
			for _, c := range []byte(of) {
				all = append(all, s+string([]byte{c}))
			}
		}
		from = end
	}
	return all
}

func textPart(s string) api.Part { return api.Part{Kind: api.PText, B: []byte(s)} }
func groupPart(g int) api.Part   { return api.Part{Kind: api.PGroup, Group: g} }

// told shows parts: a text quoted, a group by its number behind a \ , and all that a part has beside.
func told(l []api.Part) string {
	var all []string
	for _, p := range l {
		text, number := strconv.Quote(string(p.B)), strconv.Itoa(p.Group)
		switch {
		case p.Kind == api.PText && p.Group == 0:
			all = append(all, text)
		case p.Kind == api.PGroup && len(p.B) == 0:
			all = append(all, `\`+number)
		default:
			all = append(all, "{"+strconv.Itoa(p.Kind)+" "+number+" "+text+"}")
		}
	}
	return strings.Join(all, " ")
}

// takenAlong tells of each place whether a \ takes along what stands there, and of the place behind all, whether a \ ends s.
func takenAlong(s string) []bool {
	along := make([]bool, len(s)+1)
	for at := range len(s) {
		along[at+1] = s[at] == '\\' && !along[at]
	}
	return along
}

// modelParse tells by the chapter's words what s writes. Of a \ and a 0 with groups below 0 it isn't to be asked.
func modelParse(s string, groups int) (l []api.Part, at int, e api.Errno) {
	along := takenAlong(s)
	text := ""
	end := func() {
		if text != "" {
			l = append(l, textPart(text))
		}
		text = ""
	}
	for at, c := range []byte(s) {
		escapes := along[at+1]
		switch {
		case escapes && at+1 == len(s):
			return nil, at, api.ErrEscape
		case escapes && strings.IndexByte("0123456789", s[at+1]) > groups && s[at+1] != '0':
			return nil, at, api.ErrBack
		case escapes:
		case along[at] && '1' <= c && c <= '9':
			end()
			l = append(l, groupPart(int(c-'0')))
		case !along[at] && c == '&':
			end()
			l = append(l, groupPart(0))
		case along[at] && c == 'n':
			text += "\n"
		default:
			text += s[at : at+1]
		}
	}
	end()
	return l, 0, api.OK
}

// isReplacement tells whether l is as a replacement is, and each of its groups is from 0 to 9.
func isReplacement(l []api.Part) bool {
	for i, p := range l {
		isText := p.Kind == api.PText && len(p.B) > 0
		isGroup := p.Kind == api.PGroup && strings.Contains("0 1 2 3 4 5 6 7 8 9", strconv.Itoa(p.Group))
		if !isText && !isGroup || isText && i > 0 && l[i-1].Kind == api.PText {
			return false
		}
	}
	return true
}

// holds tells whether s is a part of a text of so many bytes.
func holds(s api.Span, size int) bool { return s.From >= 0 && s.To >= s.From && size >= s.To }

// modelExpand tells by the chapter's words what the parts' texts are.
func modelExpand(l []api.Part, text string, hit api.Hit) string {
	all := ""
	for _, p := range l {
		if p.Kind == api.PText {
			all += string(p.B)
		}
		for g, s := range hit.Spans {
			if p.Kind == api.PGroup && p.Group == g && holds(s, len(text)) {
				all += text[s.From:s.To]
			}
		}
	}
	return all
}

// counted tells the hits that count: each is held against all those ahead of it that counted.
func counted(size int, hits []api.Hit) []api.Hit {
	var all []api.Hit
	for _, hit := range hits {
		counts := holds(hit.Spans[0], size)
		for _, ahead := range all {
			counts = counts && hit.Spans[0].From >= ahead.Spans[0].To
		}
		if counts {
			all = append(all, hit)
		}
	}
	return all
}

// modelReplace goes from place to place: what is put there comes ahead of the byte that stands there, if that stays.
func modelReplace(l []api.Part, text string, hits []api.Hit) string {
	all := ""
	for at := range len(text) + 1 {
		stays := at < len(text)
		for _, hit := range counted(len(text), hits) {
			if hit.Spans[0].From == at {
				all += modelExpand(l, text, hit)
			}
			stays = stays && !(hit.Spans[0].From <= at && at < hit.Spans[0].To)
		}
		if stays {
			all += text[at : at+1]
		}
	}
	return all
}

// parses asks Parse for that answer, and that what it is handed stays as it was.
func parses(t *testing.T, s string, groups int, want []api.Part, at int, e api.Errno) {
	t.Helper()
	b := []byte(s)
	got, gotAt, gotE := swap.Parse(b, groups)
	if told(got) != told(want) || gotAt != at || gotE != e {
		t.Fatalf("Parse(%.99q, %d): %.300s, %d, %v; want %.300s, %d, %v", s, groups, told(got), gotAt, gotE, told(want), at, e)
	}
	if string(b) != s {
		t.Fatalf("Parse(%.99q, %d) changed it to %.99q", s, groups, b)
	}
}

// parsesLikeModel asks Parse for what the model tells.
func parsesLikeModel(t *testing.T, s string, groups int) ([]api.Part, api.Errno) {
	t.Helper()
	l, at, e := modelParse(s, groups)
	parses(t, s, groups, l, at, e)
	return l, e
}

// fails asks Parse for an error at that place, without parts beside it.
func fails(t *testing.T, s string, groups, at int, e api.Errno) {
	t.Helper()
	parses(t, s, groups, nil, at, e)
}

// written asks that what Text tells of l, a replacement, writes it: by Parse, and by the model; and that each newline stands behind a \ .
func written(t *testing.T, l []api.Part) {
	t.Helper()
	was := told(l)
	b := swap.Text(l)
	for at, along := range takenAlong(string(b))[:len(b)] {
		if b[at] == '\n' && !along {
			t.Fatalf("Text of %.300s: %.99q, with a newline at %d", was, b, at)
		}
	}
	want := meant(l)
	if back, at, e := modelParse(string(b), 9); e != api.OK || told(back) != told(want) {
		t.Fatalf("Text of %.300s: %.99q, that writes %.300s (%d, %v)", was, b, told(back), at, e)
	}
	back, at, e := swap.Parse(b, 9)
	if at != 0 || e != api.OK || told(back) != told(want) || !swap.Same(back, want) || !swap.Same(want, back) {
		t.Fatalf("Text of %.300s: %.99q, that is parsed to %.300s (%d, %v)", was, b, told(back), at, e)
	}
	if told(l) != was {
		t.Fatalf("Text changed %.300s to %.300s", was, told(l))
	}
}

// meant are the parts of l without what they have beside what their kinds ask for.
func meant(l []api.Part) []api.Part {
	var all []api.Part
	for _, p := range l {
		if p.Kind == api.PText {
			all = append(all, textPart(string(p.B)))
		} else {
			all = append(all, groupPart(p.Group))
		}
	}
	return all
}

// expands asks Expand for what the model tells, and tells it.
func expands(t *testing.T, l []api.Part, text string, hit api.Hit) string {
	t.Helper()
	was, b, want := told(l), []byte(text), modelExpand(l, text, hit)
	got := swap.Expand(l, b, hit)
	if string(got) != want {
		t.Fatalf("Expand(%.300s, %.99q, %v): %.99q; want %.99q", was, text, hit, got, want)
	}
	if told(l) != was || string(b) != text {
		t.Fatalf("Expand changed %.300s to %.300s, or %.99q to %.99q", was, told(l), text, b)
	}
	return want
}

// replaces asks Replace for what the model tells, and tells it.
func replaces(t *testing.T, l []api.Part, text string, hits ...api.Hit) string {
	t.Helper()
	was, b, want := told(l), []byte(text), modelReplace(l, text, hits)
	got := swap.Replace(l, b, hits...)
	if string(got) != want {
		t.Fatalf("Replace(%.300s, %.99q, %v): %.99q; want %.99q", was, text, hits, got, want)
	}
	if told(l) != was || string(b) != text {
		t.Fatalf("Replace changed %.300s to %.300s, or %.99q to %.99q", was, told(l), text, b)
	}
	return want
}

// same asks Same for that answer, either way round.
func same(t *testing.T, a, b []api.Part, want bool) {
	t.Helper()
	if swap.Same(a, b) != want || swap.Same(b, a) != want {
		t.Fatalf("Same(%.300s, %.300s): %v, %v; want %v", told(a), told(b), swap.Same(a, b), swap.Same(b, a), want)
	}
}

// clone is l in new memory.
func clone(l []api.Part) []api.Part {
	var all []api.Part
	for _, p := range l {
		p.B = bytes.Clone(p.B)
		all = append(all, p)
	}
	return all
}
