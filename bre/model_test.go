package bre_test

import (
	"regexp"
	"strconv"
	"strings"
	"testing"

	"palinode/api"
	"palinode/brack"
	"palinode/bre"
	"palinode/tree"
)

// told is what Parse answers.
type told struct {
	re api.Re
	at int
	e  api.Errno
}

func parse(b string) told {
	re, at, e := bre.Parse([]byte(b))
	return told{re, at, e}
}

func wrong(at int, e api.Errno) told { return told{at: at, e: e} }

func same(a, b told) bool { return tree.Same(a.re, b.re) && a.at == b.at && a.e == b.e }

// String tells t on a line: a node is its letter and its numbers.
func (t told) String() string {
	if t.e != api.OK {
		return t.e.Error() + " at " + strconv.Itoa(t.at)
	}
	var l []string
	for _, n := range t.re.Nodes {
		s := "ESCARGBbe"[n.Kind : n.Kind+1]
		switch n.Kind {
		case api.NSet:
			s = string(brack.Text(n.Set))
		case api.NCat, api.NAlt:
			s += strconv.Itoa(n.A) + "," + strconv.Itoa(n.B)
		case api.NRep:
			s += strconv.Itoa(n.A) + "{" + strconv.Itoa(n.Lo) + "," + strconv.Itoa(n.Hi) + "}"
		case api.NGroup, api.NBack:
			s += strconv.Itoa(n.Group) + ":" + strconv.Itoa(n.A)
		}
		l = append(l, s)
	}
	return strings.Join(l, " ") + ", groups: " + strconv.Itoa(t.re.Groups)
}

var (
	wholeInterval = regexp.MustCompile(`^\\\{([0-9]+)(,([0-9]*))?\\\}`)
	deadEscape    = regexp.MustCompile(`^\\([A-Za-mo-z0])?$`)
	backEscape    = regexp.MustCompile(`^\\[1-9]$`)
)

// wordAt cuts the word from b that stands at the place at, whatever it means there: an interval, a bracket expression, a \ and what is behind it, or a byte.
func wordAt(b string, at int) string {
	rest := b[at:]
	if w := wholeInterval.FindString(rest); w != "" {
		return w
	}
	if strings.HasPrefix(rest, "[") {
		if _, next, e := brack.Parse([]byte(b), at+1); e == api.OK {
			return b[at:next]
		}
	}
	n := 1
	if strings.HasPrefix(rest, `\`) {
		n = 2
	}
	return rest[:min(n, len(rest))]
}

// timesOf tells the numbers of an interval that is a word.
func timesOf(w string) (lo, hi int, ok bool) {
	m := wholeInterval.FindStringSubmatch(w)
	if m == nil {
		return 0, 0, false
	}
	lo, err := strconv.Atoi(m[1])
	if err != nil || lo > 255 {
		return 0, 0, false
	}
	switch {
	case m[2] == "":
		return lo, lo, true
	case m[3] == "":
		return lo, api.Unbounded, true
	}
	hi, err = strconv.Atoi(m[3])
	return lo, hi, err == nil && lo <= hi && hi <= 255
}

// A level is a branch that is read: the group that it is of (0: none), and its pieces.
type level struct {
	group  int
	pieces []int
}

// A model reads a text word by word. It has a stack of branches instead of calls, and its own nodes.
type model struct {
	re     api.Re
	levels []level
	ended  map[int]bool
	left   bool // is there anything that a repetition could be of
}

func (m *model) top() *level { return &m.levels[len(m.levels)-1] }

// node puts n behind all nodes.
func (m *model) node(n api.Node) bool {
	if len(m.re.Nodes) == 1000 {
		return false
	}
	m.re.Nodes = append(m.re.Nodes, n)
	return true
}

func (m *model) last() int { return len(m.re.Nodes) - 1 }

// piece puts n, and it is a piece of the branch.
func (m *model) piece(n api.Node) bool {
	ok := m.node(n)
	m.top().pieces = append(m.top().pieces, m.last())
	m.left = n.Kind != api.NBol
	return ok
}

// around puts n, whose part is the branch's last piece, in its place.
func (m *model) around(n api.Node) bool {
	l := m.top().pieces
	n.A = l[len(l)-1]
	ok := m.node(n)
	l[len(l)-1] = m.last()
	return ok
}

// join puts what the branch's pieces are together.
func (m *model) join() bool {
	l := m.top().pieces
	if len(l) == 0 {
		return m.node(empty())
	}
	all := l[0]
	for _, n := range l[1:] {
		if !m.node(cat(all, n)) {
			return false
		}
		all = m.last()
	}
	return true
}

// modelOf tells what Parse must answer of b, by the chapter's words.
func modelOf(b string) told {
	m := &model{levels: []level{{}}, ended: map[int]bool{}}
	for at := 0; at < len(b); {
		w := wordAt(b, at)
		if w == "[" {
			_, _, e := brack.Parse([]byte(b), at+1)
			return wrong(at, e)
		}
		if place, e := m.word(w, b[at+len(w):]); e != api.OK {
			return wrong(at+place, e)
		}
		at += len(w)
	}
	if len(m.levels) > 1 {
		return wrong(len(b), api.ErrParen)
	}
	if !m.join() {
		return wrong(len(b), api.ErrLong)
	}
	return told{re: m.re}
}

// word reads w, behind which rest stands; it tells what is wrong, and where, counted from where w begins.
func (m *model) word(w, rest string) (int, api.Errno) {
	if e := m.looks(w); e != api.OK {
		return 0, e
	}
	ok := true
	lo, hi, isInterval := timesOf(w)
	switch {
	case w == `\(`:
		m.re.Groups++
		m.levels = append(m.levels, level{group: m.re.Groups})
		m.left = false
	case w == `\)`:
		if !m.join() {
			return 0, api.ErrLong
		}
		n := group(m.top().group, m.last())
		m.levels = m.levels[:len(m.levels)-1]
		m.ended[n.Group] = true
		ok = m.piece(n)
	case w == "^" && len(m.top().pieces) == 0:
		ok = m.piece(bol())
	case w == "$" && (rest == "" || strings.HasPrefix(rest, `\)`)):
		ok = m.piece(eol())
	case w == "*" && m.left:
		ok = m.around(rep(0, 0, api.Unbounded))
	case isInterval:
		ok = m.around(rep(0, lo, hi))
	case backEscape.MatchString(w):
		ok = m.piece(back(int(w[1] - '0')))
	default:
		ok = m.piece(api.Node{Kind: api.NSet, Set: setOfWord(w)})
	}
	if !ok {
		return len(w), api.ErrLong
	}
	return 0, api.OK
}

// looks tells what is wrong with w, before anything is put for it.
func (m *model) looks(w string) api.Errno {
	_, _, isInterval := timesOf(w)
	switch {
	case w == `\)` && len(m.levels) == 1:
		return api.ErrParen
	case w == `\(` && m.re.Groups == 9:
		return api.ErrGroups
	case backEscape.MatchString(w) && !m.ended[int(w[1]-'0')]:
		return api.ErrBack
	case deadEscape.MatchString(w):
		return api.ErrEscape
	case strings.HasPrefix(w, `\{`) && (!m.left || !isInterval):
		return api.ErrRepeat
	}
	return api.OK
}

// setOfWord tells the bytes that w means, which is a bracket expression, a . or stands for one byte.
func setOfWord(w string) api.Set {
	var s api.Set
	switch {
	case w == ".":
		s = api.Set{^uint64(0), ^uint64(0), ^uint64(0), ^uint64(0)}
	case w == `\n`:
		s[0] = 1 << 10
	case len(w) > 2:
		s, _, _ = brack.Parse([]byte(w), 1)
	default:
		c := w[len(w)-1]
		s[c/64] = 1 << (c % 64)
	}
	return s
}

// likeModel asks Parse of b for what the model tells.
func likeModel(t *testing.T, b string) {
	t.Helper()
	want := modelOf(b)
	if got := parse(b); !same(got, want) {
		t.Fatalf("%.99q: %.999v, want %.999v", b, got, want)
	}
}
