package ere_test

import (
	"regexp"
	"strconv"
	"strings"
	"testing"

	"palinode/api"
	"palinode/brack"
	"palinode/ere"
	"palinode/tree"
)

// told is what Parse answers.
type told struct {
	re api.Re
	at int
	e  api.Errno
}

func parse(b string) told {
	re, at, e := ere.Parse([]byte(b))
	return told{re, at, e}
}

func wrong(at int, e api.Errno) told { return told{at: at, e: e} }

func same(a, b told) bool { return tree.Same(a.re, b.re) && a.at == b.at && a.e == b.e }

// String tells t on a line, its nodes one behind the other.
func (t told) String() string {
	if t.e != api.OK {
		return t.e.Error() + " at " + strconv.Itoa(t.at)
	}
	var l []string
	for _, n := range t.re.Nodes {
		l = append(l, nodeText(n))
	}
	return strings.Join(l, " ")
}

// nodeText tells n: E, a bracket expression or a . , C and its parts, A and its parts, R and its part and its times, G and its group and its part, B and its group, ^ or $ .
func nodeText(n api.Node) string {
	a, b, g := strconv.Itoa(n.A), strconv.Itoa(n.B), strconv.Itoa(n.Group)
	switch n.Kind {
	case api.NSet:
		if n.Set == anyByte() {
			return "."
		}
		return string(brack.Text(n.Set))
	case api.NCat:
		return "C" + a + "," + b
	case api.NAlt:
		return "A" + a + "," + b
	case api.NRep:
		return "R" + a + timesText(n.Lo, n.Hi)
	case api.NGroup:
		return "G" + g + ":" + a
	case api.NBack:
		return "B" + g
	case api.NBol:
		return "^"
	case api.NEol:
		return "$"
	}
	return "E"
}

func timesText(lo, hi int) string {
	if hi == api.Unbounded {
		return "{" + strconv.Itoa(lo) + ",}"
	}
	return "{" + strconv.Itoa(lo) + "," + strconv.Itoa(hi) + "}"
}

func anyByte() api.Set { return api.Set{^uint64(0), ^uint64(0), ^uint64(0), ^uint64(0)} }

var (
	wholeInterval = regexp.MustCompile(`^\{([0-9]+)(,([0-9]*))?\}`)
	deadEscape    = regexp.MustCompile(`^\\([A-Za-mo-z0])?$`)
	backEscape    = regexp.MustCompile(`^\\[1-9]$`)
)

// wordAt cuts the word from b that stands at the place at, whatever it means there: an interval, a bracket expression, a \ and what is behind it, or a byte.
func wordAt(b string, at int) string {
	rest := b[at:]
	if w := wholeInterval.FindString(rest); w != "" {
		return w
	}
	if strings.HasPrefix(rest, "[") {
		if _, next, e := brack.Parse([]byte(b), at+1); e == api.OK {
			return b[at:next]
		}
	}
	n := 1
	if strings.HasPrefix(rest, `\`) {
		n = 2
	}
	return rest[:min(n, len(rest))]
}

// timesOf tells the numbers of a word that is a repetition.
func timesOf(w string) (lo, hi int, ok bool) {
	switch w {
	case "*":
		return 0, api.Unbounded, true
	case "+":
		return 1, api.Unbounded, true
	case "?":
		return 0, 1, true
	}
	m := wholeInterval.FindStringSubmatch(w)
	if m == nil {
		return 0, 0, false
	}
	lo, err := strconv.Atoi(m[1])
	if err != nil || lo > 255 {
		return 0, 0, false
	}
	switch {
	case m[2] == "":
		return lo, lo, true
	case m[3] == "":
		return lo, api.Unbounded, true
	}
	hi, err = strconv.Atoi(m[3])
	return lo, hi, err == nil && lo <= hi && hi <= 255
}

// A level is what stands within a group, or outside of all: the group, the branches that ended, and the pieces of the one that is read.
type level struct {
	group            int
	branches, pieces []int
}

// A model reads a text word by word. It has a stack of levels instead of calls, and its own nodes.
type model struct {
	re     api.Re
	levels []level
	ended  map[int]bool
	atom   bool // does an atom stand ahead, with its repetitions
}

func (m *model) top() *level { return &m.levels[len(m.levels)-1] }

// node puts n behind all nodes.
func (m *model) node(n api.Node) bool {
	if len(m.re.Nodes) == 1000 {
		return false
	}
	m.re.Nodes = append(m.re.Nodes, n)
	return true
}

func (m *model) last() int { return len(m.re.Nodes) - 1 }

// piece puts n, and it is a piece of the branch.
func (m *model) piece(n api.Node) bool {
	ok := m.node(n)
	m.top().pieces = append(m.top().pieces, m.last())
	m.atom = n.Kind != api.NBol && n.Kind != api.NEol
	return ok
}

// repeat puts a repetition of the branch's last piece in its place.
func (m *model) repeat(lo, hi int) bool {
	l := m.top().pieces
	ok := m.node(api.Node{Kind: api.NRep, A: l[len(l)-1], Lo: lo, Hi: hi})
	l[len(l)-1] = m.last()
	return ok
}

// join puts nodes of that kind for all of l, and tells the last.
func (m *model) join(kind int, l []int) (int, bool) {
	all := l[0]
	for _, n := range l[1:] {
		if !m.node(api.Node{Kind: kind, A: all, B: n}) {
			return 0, false
		}
		all = m.last()
	}
	return all, true
}

// endBranch puts the pieces together, and they are one of the branches.
func (m *model) endBranch() bool {
	all, ok := m.join(api.NCat, m.top().pieces)
	m.top().branches = append(m.top().branches, all)
	m.top().pieces = nil
	m.atom = false
	return ok
}

// endAll ends the last branch, and puts all of them together.
func (m *model) endAll() (int, bool) {
	if !m.endBranch() {
		return 0, false
	}
	return m.join(api.NAlt, m.top().branches)
}

// modelOf tells what Parse must answer of b, by the chapter's words.
func modelOf(b string) told {
	if b == "" {
		return told{re: api.Re{Nodes: []api.Node{{}}}}
	}
	m := &model{levels: []level{{}}, ended: map[int]bool{}}
	for at := 0; at < len(b); {
		w := wordAt(b, at)
		if place, e := m.word(w); e != api.OK {
			return wrong(at+place, e)
		}
		if w == "[" {
			_, _, e := brack.Parse([]byte(b), at+1)
			return wrong(at, e)
		}
		at += len(w)
	}
	if len(m.top().pieces) == 0 {
		return wrong(len(b), api.ErrEmpty)
	}
	if len(m.levels) > 1 {
		return wrong(len(b), api.ErrParen)
	}
	if _, ok := m.endAll(); !ok {
		return wrong(len(b), api.ErrLong)
	}
	return told{re: m.re}
}

// word reads w; it tells what is wrong, and where, counted from where w begins. A [ that begins no bracket expression is left to who asked.
func (m *model) word(w string) (int, api.Errno) {
	if e := m.looks(w); e != api.OK {
		return 0, e
	}
	ok := true
	lo, hi, isRepetition := timesOf(w)
	switch {
	case w == "[":
	case w == "|":
		if !m.endBranch() {
			return 0, api.ErrLong
		}
	case w == "(":
		m.re.Groups++
		m.levels = append(m.levels, level{group: m.re.Groups})
		m.atom = false
	case w == ")":
		all, room := m.endAll()
		if !room {
			return 0, api.ErrLong
		}
		g := m.top().group
		m.levels = m.levels[:len(m.levels)-1]
		m.ended[g] = true
		ok = m.piece(api.Node{Kind: api.NGroup, A: all, Group: g})
	case w == "^":
		ok = m.piece(api.Node{Kind: api.NBol})
	case w == "$":
		ok = m.piece(api.Node{Kind: api.NEol})
	case isRepetition:
		ok = m.repeat(lo, hi)
	case backEscape.MatchString(w):
		ok = m.piece(api.Node{Kind: api.NBack, Group: int(w[1] - '0')})
	default:
		ok = m.piece(api.Node{Kind: api.NSet, Set: setOfWord(w)})
	}
	if !ok {
		return len(w), api.ErrLong
	}
	return 0, api.OK
}

// looks tells what is wrong with w, before anything is put for it.
func (m *model) looks(w string) api.Errno {
	_, _, isRepetition := timesOf(w)
	switch {
	case len(m.top().pieces) == 0 && (w == "|" || w == ")" && len(m.levels) > 1):
		return api.ErrEmpty
	case (isRepetition || strings.HasPrefix(w, "{")) && !(isRepetition && m.atom):
		return api.ErrRepeat
	case w == ")" && len(m.levels) == 1:
		return api.ErrParen
	case w == "(" && m.re.Groups == 9:
		return api.ErrGroups
	case backEscape.MatchString(w) && !m.ended[int(w[1]-'0')]:
		return api.ErrBack
	case deadEscape.MatchString(w):
		return api.ErrEscape
	}
	return api.OK
}

// setOfWord tells the bytes that w means, which is a bracket expression, a . or stands for one byte.
func setOfWord(w string) api.Set {
	var s api.Set
	switch {
	case w == ".":
		return anyByte()
	case w == `\n`:
		s[0] = 1 << 10
	case len(w) > 2:
		s, _, _ = brack.Parse([]byte(w), 1)
	default:
		c := w[len(w)-1]
		s[c/64] = 1 << (c % 64)
	}
	return s
}

// likeModel asks Parse of b for what the model tells.
func likeModel(t *testing.T, b string) {
	t.Helper()
	want := modelOf(b)
	if got := parse(b); !same(got, want) {
		t.Fatalf("%.99q: %.999v, want %.999v", b, got, want)
	}
}
