package find_test

import (
	"fmt"
	"math"
	"slices"
	"strconv"
	"strings"
	"testing"

	"palinode/api"
	"palinode/find"
	"palinode/match"
)

// limit is what the model counts to at one place: what costs more is not told by it.
const limit = 20000

// A model finds by the chapter's words alone: each match is asked for anew, from a place on.
type model struct {
	re    api.Re
	text  []byte
	cost  int
	above bool // does it cost more than the model counts to?
}

// leastOf tells how many bytes the node at that number takes at least.
func leastOf(re api.Re, number int) int {
	n, least := re.Nodes[number], 0
	switch n.Kind {
	case api.NSet:
		least = 1
	case api.NCat:
		least = leastOf(re, n.A) + leastOf(re, n.B)
	case api.NAlt:
		least = min(leastOf(re, n.A), leastOf(re, n.B))
	case api.NRep:
		least = n.Lo * leastOf(re, n.A)
	case api.NGroup:
		least = leastOf(re, n.A)
	}
	return min(least, 65537)
}

// first tells the first match from a place on.
func (m *model) first(from int) (api.Hit, bool) {
	for at := from; at <= len(m.text) && !m.above; at++ {
		if len(m.text)-at < leastOf(m.re, len(m.re.Nodes)-1) {
			continue
		}
		hit, ok, left, e := match.At(m.re, m.text, at, limit)
		m.cost += limit - left
		m.above = e != api.OK
		if ok {
			return hit, true
		}
	}
	return api.Hit{}, false
}

// all tells all matches.
func (m *model) all() []api.Hit {
	var l []api.Hit
	from := 0
	for {
		hit, ok := m.first(from)
		if n := len(l); ok && n > 0 && tookNothing(hit) && hit.Spans[0].From == l[n-1].Spans[0].To {
			hit, ok = m.first(hit.Spans[0].To + 1)
		}
		if !ok {
			return l
		}
		l = append(l, hit)
		from = hit.Spans[0].To
		if tookNothing(hit) {
			from++
		}
	}
}

// tookNothing tells whether a match took no byte.
func tookNothing(hit api.Hit) bool { return hit.Spans[0].From == hit.Spans[0].To }

// short tells re, cut off where it is long.
func short(re api.Re) string {
	l := fmt.Sprint(re)
	return l[:min(len(l), 600)]
}

// spanText tells a span.
func spanText(from, to int) string { return strconv.Itoa(from) + "-" + strconv.Itoa(to) }

// hitText tells a hit on a line: the spans from 0 on, up to the last one that is there; "no", if there is none.
func hitText(hit api.Hit, ok bool) string {
	if !ok {
		return "no"
	}
	var l []string
	for g, s := range hit.Spans {
		for s.From >= 0 && len(l) < g {
			l = append(l, "-")
		}
		if s.From >= 0 {
			l = append(l, spanText(s.From, s.To))
		}
	}
	return strings.Join(l, " ")
}

// allText tells hits on a line.
func allText(hits []api.Hit) string {
	var l []string
	for _, h := range hits {
		l = append(l, hitText(h, true))
	}
	return strings.Join(l, ", ")
}

// firstIs asks First, with that fuel, for that answer.
func firstIs(t *testing.T, re api.Re, text []byte, from, fuel int, hit api.Hit, ok bool, left int, e api.Errno) {
	t.Helper()
	gotHit, gotOK, gotLeft, gotE := find.First(re, text, from, fuel)
	if gotHit != hit || gotOK != ok || gotLeft != left || gotE != e {
		t.Fatalf("%s, %.99q, from %d, fuel %d: %q, %v, %v, %d, %v; want %q, %v, %v, %d, %v", short(re), text, from, fuel,
			hitText(gotHit, gotOK), gotHit, gotOK, gotLeft, gotE, hitText(hit, ok), hit, ok, left, e)
	}
}

// allAre asks All, with that fuel, for that answer.
func allAre(t *testing.T, re api.Re, text []byte, fuel int, l []api.Hit, left int, e api.Errno) {
	t.Helper()
	got, gotLeft, gotE := find.All(re, text, fuel)
	if !slices.Equal(got, l) || gotLeft != left || gotE != e {
		t.Fatalf("%s, %.99q, fuel %d: %q, %d, %v; want %q, %d, %v", short(re), text, fuel, allText(got), gotLeft, gotE, allText(l), left, e)
	}
}

// firstCosts asks for a first match for just so much fuel: for as much and for more, and not for less.
func firstCosts(t *testing.T, re api.Re, text []byte, from int, hit api.Hit, ok bool, cost int) {
	t.Helper()
	for _, more := range []int{0, 1, 2, math.MaxInt - cost} {
		firstIs(t, re, text, from, cost+more, hit, ok, more, api.OK)
	}
	for _, less := range []int{0, cost / 2, cost - 1} {
		if 0 <= less && less < cost {
			firstIs(t, re, text, from, less, api.Hit{}, false, 0, api.ErrFuel)
		}
	}
}

// allCost asks for all matches for just so much fuel, likewise.
func allCost(t *testing.T, re api.Re, text []byte, l []api.Hit, cost int) {
	t.Helper()
	for _, more := range []int{0, 1, 2, math.MaxInt - cost} {
		allAre(t, re, text, cost+more, l, more, api.OK)
	}
	for _, less := range []int{0, cost / 2, cost - 1} {
		if 0 <= less && less < cost {
			allAre(t, re, text, less, nil, 0, api.ErrFuel)
		}
	}
}

// firstLikeModel asks First for what the model tells, and tells it; it tells nothing of what is above the model's limit.
func firstLikeModel(t *testing.T, re api.Re, text []byte, from int) (hit api.Hit, ok bool, cost int) {
	t.Helper()
	m := model{re: re, text: text}
	hit, ok = m.first(from)
	if m.above {
		return api.Hit{}, false, -1
	}
	firstCosts(t, re, text, from, hit, ok, m.cost)
	return hit, ok, m.cost
}

// allLikeModel asks All for what the model tells, likewise.
func allLikeModel(t *testing.T, re api.Re, text []byte) (l []api.Hit, cost int) {
	t.Helper()
	m := model{re: re, text: text}
	l = m.all()
	if m.above {
		return nil, -1
	}
	allCost(t, re, text, l, m.cost)
	return l, m.cost
}
