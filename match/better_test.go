package match_test

import (
	"math"
	"testing"

	"palinode/api"
	"palinode/match"
)

// none is the span of a group that has none.
var none = api.Span{From: -1, To: -1}

// hitOf is a match up to that end, with these spans of groups from 1 on, and none of others.
func hitOf(end int, groups ...api.Span) api.Hit {
	hit := api.Hit{Spans: [10]api.Span{{From: 0, To: end}, none, none, none, none, none, none, none, none, none}}
	copy(hit.Spans[1:], groups)
	return hit
}

// isBetter asks that a is better than b, and b isn't than a.
func isBetter(t *testing.T, a, b api.Hit) {
	t.Helper()
	if !match.Better(a, b) || match.Better(b, a) {
		t.Errorf("%v, %v: %v, %v", a.Spans, b.Spans, match.Better(a, b), match.Better(b, a))
	}
}

// isNeither asks that neither is better than the other.
func isNeither(t *testing.T, a, b api.Hit) {
	t.Helper()
	if match.Better(a, b) || match.Better(b, a) {
		t.Errorf("%v, %v: %v, %v", a.Spans, b.Spans, match.Better(a, b), match.Better(b, a))
	}
}

// P11.2: the greater end of span 0 is better, whatever the groups are; where span 0 begins plays no part.
func TestBetterEnd(t *testing.T) {
	all := []int{math.MinInt, -5, -1, 0, 1, 2, 65536, math.MaxInt}
	for i, less := range all {
		for _, more := range all[i+1:] {
			isBetter(t, hitOf(more), hitOf(less))
			isBetter(t, hitOf(more), hitOf(less, api.Span{From: 0, To: 9}, api.Span{From: 0, To: 9}))
			isBetter(t, hitOf(more, api.Span{From: 3, To: 3}), hitOf(less, api.Span{From: 0, To: 9}))
			for _, from := range all {
				a, b := hitOf(more), hitOf(less)
				a.Spans[0].From = from
				isBetter(t, a, b)
				b.Spans[0].From = from
				isBetter(t, a, b)
				a.Spans[0].From = 0
				isBetter(t, a, b)
			}
		}
		for _, from := range all {
			a := hitOf(less)
			a.Spans[0].From = from
			isNeither(t, a, hitOf(less))
			a.Spans[1] = api.Span{From: 4, To: 4}
			isBetter(t, a, hitOf(less))
		}
	}
	isNeither(t, api.Hit{}, api.Hit{})
	isBetter(t, api.Hit{}, hitOf(0))
}

// ranked is a span, and which place it has among others: the less, the better.
type ranked struct {
	rank int
	span api.Span
}

// someRanked are spans of groups, the best ahead; of two of the same rank neither is better.
func someRanked() []ranked {
	var l []ranked
	for i, row := range [][]api.Span{
		{{From: 0, To: math.MaxInt}},
		{{From: 0, To: 2}},
		{{From: 0, To: 1}},
		{{From: 0, To: 0}},
		{{From: 0, To: -7}},
		{{From: 0, To: math.MinInt}},
		{{From: 1, To: 9}},
		{{From: 1, To: 1}},
		{{From: 2, To: 2}},
		{{From: math.MaxInt, To: math.MaxInt}},
		{{From: math.MaxInt, To: 0}},
		{none, {From: -1, To: 9}, {From: -2, To: -2}, {From: -2, To: 3}, {From: math.MinInt, To: math.MaxInt}, {From: math.MinInt, To: math.MinInt}},
	} {
		for _, s := range row {
			l = append(l, ranked{i, s})
		}
	}
	return l
}

// decides asks that the group g decides between two hits with these spans of it, which are the same ahead of g; behind it all is better in b.
func decides(t *testing.T, g int, x, y ranked) {
	t.Helper()
	a, b := hitOf(5), hitOf(5)
	for i := 1; i <= 9; i++ {
		switch {
		case i < g:
			a.Spans[i], b.Spans[i] = x.span, x.span
		case i == g:
			a.Spans[i], b.Spans[i] = x.span, y.span
		default:
			a.Spans[i], b.Spans[i] = none, api.Span{From: 0, To: math.MaxInt}
		}
	}
	switch {
	case x.rank < y.rank:
		isBetter(t, a, b)
	case x.rank > y.rank:
		isBetter(t, b, a)
	case x != y || g == 9:
		isNeither(t, a, b)
	default:
		isBetter(t, b, a)
	}
}

// P11.2: each of the spans 1 to 9 decides, if it is the first that isn't the same, by that it has one, that it begins earlier, that it ends later; what stands behind it plays no part, not even if neither is better.
func TestBetterGroup(t *testing.T) {
	for g := 1; g <= 9; g++ {
		for _, x := range someRanked() {
			for _, y := range someRanked() {
				decides(t, g, x, y)
			}
		}
	}
}

// P11.2: no hit is better than itself.
func TestBetterItself(t *testing.T) {
	for _, x := range someRanked() {
		for g := range 10 {
			a := hitOf(3, api.Span{From: 1, To: 2})
			a.Spans[g] = x.span
			isNeither(t, a, a)
		}
	}
}

// P11.2: the words of it, one by one.
func TestBetterWords(t *testing.T) {
	isBetter(t, hitOf(2), hitOf(1))
	isBetter(t, hitOf(1, api.Span{From: 0, To: 0}), hitOf(1))
	isBetter(t, hitOf(1, none, api.Span{From: 0, To: 0}), hitOf(1))
	isBetter(t, hitOf(1, api.Span{From: 1, To: 1}), hitOf(1, none, api.Span{From: 0, To: 1}))
	isBetter(t, hitOf(4, api.Span{From: 0, To: 1}), hitOf(4, api.Span{From: 1, To: 4}))
	isBetter(t, hitOf(4, api.Span{From: 1, To: 3}), hitOf(4, api.Span{From: 1, To: 2}))
	isBetter(t, hitOf(4, api.Span{From: 1, To: 3}), hitOf(4, api.Span{From: 1, To: 2}, api.Span{From: 0, To: 4}))
	isNeither(t, hitOf(4, api.Span{From: -1, To: 3}), hitOf(4, api.Span{From: -3, To: 1}, api.Span{From: 0, To: 4}))
	isNeither(t, hitOf(4, api.Span{From: 1, To: 3}), hitOf(4, api.Span{From: 1, To: 3}))
}

// P11.1 and P11.2: nothing that the model's ways have matched is better than what At answers.
func TestBestOfAll(t *testing.T) {
	r := numbers(1113)
	held := 0
	for range 20000 {
		re, text := someTree(&r), someText(&r, 7)
		got, ok, _, e := match.At(re, []byte(text), 0, limit)
		if e != api.OK {
			continue
		}
		for _, s := range (&model{re: re, text: text}).node(len(re.Nodes)-1, begin(0)) {
			hit := api.Hit{Spans: s.spans}
			hit.Spans[0] = api.Span{From: 0, To: s.place}
			if !ok || match.Better(hit, got) {
				t.Fatalf("%s, %q: %q, and %q is better", short(re), text, hitText(got, ok), hitText(hit, true))
			}
			held++
		}
	}
	if held < 10000 {
		t.Error(held)
	}
}
