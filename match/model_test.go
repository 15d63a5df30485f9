package match_test

import (
	"fmt"
	"math"
	"slices"
	"strconv"
	"strings"
	"testing"

	"palinode/api"
	"palinode/class"
	"palinode/match"
)

// stand is a place, and the spans that groups have there.
type stand struct {
	place int
	spans [10]api.Span
}

// limit is what the model counts to: what costs more is not told by it.
const limit = 20000

// A model has no tasks and no rows: it goes down a tree's parts, and tells of a node all stands that come out of it, as the chapter's words say; it counts what that costs.
type model struct {
	re   api.Re
	text string
	cost int
}

// begin is a place where no group has a span.
func begin(at int) stand {
	s := stand{place: at}
	for g := range s.spans {
		s.spans[g] = none
	}
	return s
}

// node tells what comes out of the node at that number.
func (m *model) node(number int, in stand) []stand {
	m.cost++
	if m.cost > limit {
		return nil
	}
	n := m.re.Nodes[number]
	switch n.Kind {
	case api.NSet:
		return m.behind(in, in.place < len(m.text) && class.Has(n.Set, m.text[in.place]), 1)
	case api.NCat:
		var out []stand
		for _, s := range m.node(n.A, in) {
			out = append(out, m.node(n.B, s)...)
		}
		return out
	case api.NAlt:
		return append(m.node(n.A, in), m.node(n.B, in)...)
	case api.NRep:
		return m.times(n, 0, in)
	case api.NGroup:
		out := m.node(n.A, in)
		for i := range out {
			m.cost++
			out[i].spans[n.Group] = api.Span{From: in.place, To: out[i].place}
		}
		return out
	case api.NBack:
		if in.spans[n.Group].From < 0 {
			return nil
		}
		took := m.text[in.spans[n.Group].From:in.spans[n.Group].To]
		return m.behind(in, strings.HasPrefix(m.text[in.place:], took), len(took))
	case api.NBol:
		return m.behind(in, in.place == 0, 0)
	case api.NEol:
		return m.behind(in, in.place == len(m.text), 0)
	}
	return []stand{in}
}

// behind tells where one stands behind so many bytes, if they are there.
func (m *model) behind(in stand, there bool, bytes int) []stand {
	if !there {
		return nil
	}
	in.place += bytes
	return []stand{in}
}

// times tells what comes out of a repetition whose part was taken so many times.
func (m *model) times(n api.Node, taken int, in stand) []stand {
	var out []stand
	if taken >= n.Lo {
		out = append(out, in)
	}
	if n.Hi != api.Unbounded && taken >= n.Hi {
		return out
	}
	for _, s := range m.node(n.A, in) {
		m.cost++
		switch {
		case s.place > in.place:
			out = append(out, m.times(n, taken+1, s)...)
		case taken+1 <= n.Lo:
			out = append(out, s)
		}
	}
	return out
}

// rank is a row of numbers that is above that of another, if s is better.
func (s stand) rank() []int {
	l := []int{s.place}
	for _, x := range s.spans[1:] {
		if x.From < 0 {
			l = append(l, 0, 0, 0)
		} else {
			l = append(l, 1, -x.From, x.To)
		}
	}
	return l
}

// modelOf tells what matches at the place, whether anything does, and what it costs; if that is above the limit, it alone counts.
func modelOf(re api.Re, text string, at int) (api.Hit, bool, int) {
	m := model{re: re, text: text}
	all := m.node(len(re.Nodes)-1, begin(at))
	if len(all) == 0 {
		return api.Hit{}, false, m.cost
	}
	best := slices.MaxFunc(all, func(a, b stand) int { return slices.Compare(a.rank(), b.rank()) })
	best.spans[0] = api.Span{From: at, To: best.place}
	return api.Hit{Spans: best.spans}, true, m.cost
}

// short tells re, cut off where it is long.
func short(re api.Re) string {
	l := fmt.Sprint(re)
	return l[:min(len(l), 600)]
}

// hitText tells a hit on a line: the spans from 0 on, up to the last one that is there; "no", if there is none.
func hitText(hit api.Hit, ok bool) string {
	if !ok {
		return "no"
	}
	var l []string
	for g, s := range hit.Spans {
		for s.From >= 0 && len(l) < g {
			l = append(l, "-")
		}
		if s.From >= 0 {
			l = append(l, strconv.Itoa(s.From)+"-"+strconv.Itoa(s.To))
		}
	}
	return strings.Join(l, " ")
}

// answers asks At, with that fuel, for that answer.
func answers(t *testing.T, re api.Re, text string, at, fuel int, hit api.Hit, ok bool, left int, e api.Errno) {
	t.Helper()
	gotHit, gotOK, gotLeft, gotE := match.At(re, []byte(text), at, fuel)
	if gotHit != hit || gotOK != ok || gotLeft != left || gotE != e {
		t.Fatalf("%s, %.99q, at %d, fuel %d: %q, %v, %d, %v; want %q, %v, %d, %v", short(re), text, at, fuel,
			hitText(gotHit, gotOK), gotHit.Spans, gotLeft, gotE, hitText(hit, ok), hit.Spans, left, e)
	}
}

// costs asks that this matches for just so much fuel: for as much and for more, and not for less.
func costs(t *testing.T, re api.Re, text string, at int, hit api.Hit, ok bool, cost int) {
	t.Helper()
	for _, more := range []int{0, 1, math.MaxInt - cost} {
		answers(t, re, text, at, cost+more, hit, ok, more, api.OK)
	}
	answers(t, re, text, at, cost-1, api.Hit{}, false, 0, api.ErrFuel)
	answers(t, re, text, at, 0, api.Hit{}, false, 0, api.ErrFuel)
}

// likeModel asks At for what the model tells, and tells it; or for ErrFuel, if that is above the model's limit.
func likeModel(t *testing.T, re api.Re, text string, at int) (api.Hit, bool, int) {
	t.Helper()
	hit, ok, cost := modelOf(re, text, at)
	if cost > limit {
		answers(t, re, text, at, limit, api.Hit{}, false, 0, api.ErrFuel)
		return api.Hit{}, false, cost
	}
	costs(t, re, text, at, hit, ok, cost)
	return hit, ok, cost
}
