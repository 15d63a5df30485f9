package pretty_test

import (
	"bytes"
	"fmt"
	"regexp"
	"slices"
	"strconv"
	"strings"
	"testing"

	"palinode/api"
	"palinode/parse"
	"palinode/pretty"
	"palinode/retext"
)

var both = []bool{false, true}

const (
	delims = "!\"#%',-/:;<=>@_`|~"
	stdout = "/dev/stdout"
)

// seen tells all that x has as a text; lists that are nil and such as have no elements are the same in it.
func seen(x any) string { return fmt.Sprintf("%+v", x) }

// ask asks for a script of p, and holds it against the model: whether there is one, and that it is no longer than any; parsed it must be p again.
func ask(t *testing.T, p api.Program, extended bool) ([]byte, bool) {
	t.Helper()
	b, ok := pretty.Text(p, extended)
	n, there := least(p, extended)
	if ok != there || len(b) != n {
		t.Fatalf("%s, %v: %q, %v, not %d bytes, %v", seen(p), extended, b, ok, n, there)
	}
	if ok && !says(b, extended, p) {
		t.Fatalf("%s, %v: %q says another", seen(p), extended, b)
	}
	return b, ok
}

// says tells whether b is a script of p.
func says(b []byte, extended bool, p api.Program) bool {
	s, at, e := parse.Parse(b, extended)
	if e != api.OK || at != 0 {
		return false
	}
	return seen(nowhere(s.Program())) == seen(nowhere(p)) && parse.Same(s.Program(), p)
}

// nowhere tells p, of whose commands it isn't said where they begin.
func nowhere(p api.Program) api.Program {
	p.Cmds = slices.Clone(p.Cmds)
	for i := range p.Cmds {
		p.Cmds[i].At = 0
	}
	return p
}

// A model tells by the words of chapter 16 whether any script says a program, and how long the shortest one is. It writes none.
type model struct {
	p        api.Program
	extended bool
	n        int   // the bytes of the commands that were looked at
	none     bool  // no script says what was looked at
	res      int   // how many regular expressions were there
	names    int   // how many names were there
	blocks   []int // the commands { that have no end yet
}

func least(p api.Program, extended bool) (int, bool) {
	m := &model{p: p, extended: extended}
	m.must(len(p.Cmds) <= 200)
	if p.Quiet {
		m.n = len("#n\n")
		if len(p.Cmds) == 0 {
			m.n = len("#n")
		}
	}
	for i, c := range p.Cmds {
		if m.none {
			break
		}
		m.command(i, c)
	}
	m.must(len(m.blocks) == 0 && m.res == len(p.Res) && m.res == len(p.Texts) && m.names == len(p.Names))
	m.must(m.n <= 4096)
	if m.none {
		return 0, false
	}
	return m.n, true
}

func (m *model) must(is bool) { m.none = m.none || !is }

// is tells whether all of s is as the pattern says.
func is(pattern, s string) bool {
	re := compiled[pattern]
	if re == nil {
		re = regexp.MustCompile(`\A(?s:` + pattern + `)\z`)
		compiled[pattern] = re
	}
	return re.MatchString(s)
}

var compiled = map[string]*regexp.Regexp{}

func among(some string, c byte) bool { return strings.IndexByte(some, c) >= 0 }

func (m *model) command(i int, c api.Cmd) {
	if i > 0 {
		m.n += m.apart(m.p.Cmds[i-1], c)
	}
	m.must(among("{}=dDgGhHnNpPx:btacilqrwsy", c.Kind))
	m.n++
	m.address(c.One)
	if c.Two.Kind != 0 {
		m.must(c.One.Kind != 0)
		m.n++
	}
	m.address(c.Two)
	if c.Not {
		m.n++
	}
	m.must(!among(":}", c.Kind) || c.One.Kind == 0 && !c.Not)
	m.must(!among("aiqr=", c.Kind) || c.Two.Kind == 0)
	has := api.Cmd{One: c.One, Two: c.Two, Not: c.Not, Kind: c.Kind, At: c.At, File: -1}
	if !m.none {
		m.behind(i, c, &has)
	}
	m.must(seen(has) == seen(c))
}

// apart tells how many bytes must stand between two commands.
func (m *model) apart(ahead, c api.Cmd) int {
	if among("acirw", ahead.Kind) || ahead.Kind == 's' && ahead.File != -1 {
		return 1
	}
	if ahead.Kind == '{' || c.Kind == '}' {
		return 0
	}
	return 1
}

func (m *model) address(a api.Addr) {
	switch has := (api.Addr{Kind: a.Kind}); a.Kind {
	case 0:
		m.must(a == has)
	case 1:
		has.N = a.N
		m.must(a == has && a.N >= 0 && a.N <= 1<<31)
		m.n += len(strconv.Itoa(a.N))
	case 2:
		m.must(a == has)
		m.n++
	case 3:
		has.Re = a.Re
		m.must(a == has)
		text, _ := m.regex(a.Re)
		m.n += len(text) + 2
		if !fits(text, "/") {
			m.n++
			m.must(slices.ContainsFunc(strings.Split(delims, ""), func(d string) bool { return fits(text, d) }))
		}
	default:
		m.none = true
	}
}

// fits tells whether text may stand up to the delimiter d.
func fits(text, d string) bool {
	for i := 0; i < len(text); i++ {
		switch text[i] {
		case '\n', d[0]:
			return false
		case '\\':
			i++
			if i == len(text) {
				return false
			}
		}
	}
	return true
}

// regex tells the text of a regular expression, and how many groups it has.
func (m *model) regex(n int) (string, int) {
	if n == -1 {
		return "", 9
	}
	m.must(n == m.res && n < len(m.p.Res) && n < len(m.p.Texts))
	if m.none {
		return "", 0
	}
	m.res++
	text := m.p.Texts[n]
	re, _, e := retext.Parse(text, m.extended)
	m.must(len(text) > 0 && e == api.OK && seen(re) == seen(m.p.Res[n]))
	return string(text), re.Groups
}

// behind looks at what stands behind the letter of c, and gives has what c may have of it.
func (m *model) behind(i int, c api.Cmd, has *api.Cmd) {
	switch c.Kind {
	case '{':
		has.To = c.To
		m.must(len(m.blocks) < 20)
		m.blocks = append(m.blocks, i)
	case '}':
		m.must(len(m.blocks) > 0)
		if last := len(m.blocks) - 1; last >= 0 {
			m.must(m.p.Cmds[m.blocks[last]].To == i)
			m.blocks = m.blocks[:last]
		}
	case ':':
		has.Label = c.Label
		m.n += len(c.Label)
		m.must(is(`[A-Za-z0-9_]{1,16}`, c.Label) && m.target(c.Label) == i)
	case 'b', 't':
		has.Label, has.To = c.Label, m.target(c.Label)
		m.n += len(c.Label)
		m.must(c.Label == "" || has.To < len(m.p.Cmds))
	case 'a', 'c', 'i':
		has.Text = c.Text
		m.n += 2 + len(c.Text) - 1 + bytes.Count(c.Text, []byte(`\`)) + bytes.Count(c.Text, []byte("\n")) - 1
		m.must(bytes.HasSuffix(c.Text, []byte("\n")))
	case 'l':
		has.Code = c.Code
		m.number(c.Code, 0, 255, 70)
	case 'q':
		has.Code = c.Code
		m.number(c.Code, 0, 255, 0)
	case 'r':
		has.Text = c.Text
		m.n += len(c.Text)
		m.must(isName(string(c.Text)))
	case 'w':
		has.File = c.File
		m.file(c.File)
	case 's':
		m.swap(c, has)
	case 'y':
		m.rows(c, has)
	}
}

// target tells the first command : of that label, or how many commands there are.
func (m *model) target(label string) int {
	i := slices.IndexFunc(m.p.Cmds, func(c api.Cmd) bool { return c.Kind == ':' && c.Label == label && label != "" })
	if i < 0 {
		return len(m.p.Cmds)
	}
	return i
}

func (m *model) number(n, from, to, none int) {
	m.must(n >= from && n <= to)
	if n != none {
		m.n += len(strconv.Itoa(n))
	}
}

func isName(name string) bool { return is(`[!-~]{1,64}`, name) }

func (m *model) file(n int) {
	if n == -2 {
		m.n += len(stdout)
		return
	}
	m.must(n >= 0 && n <= m.names && n < len(m.p.Names) && n < 16)
	if m.none {
		return
	}
	name := m.p.Names[n]
	m.n += len(name)
	if n == m.names {
		m.names++
		m.must(isName(name) && name != stdout && !slices.Contains(m.p.Names[:n], name))
	}
}

func (m *model) swap(c api.Cmd, has *api.Cmd) {
	has.Re, has.Parts, has.All, has.Print, has.Nth, has.File = c.Re, c.Parts, c.All, c.Print, c.Nth, c.File
	regex, groups := m.regex(c.Re)
	m.n += len(regex) + 3
	texts := ""
	for i, part := range c.Parts {
		switch part.Kind {
		case 0:
			m.must(part.Group == 0 && len(part.B) > 0 && (i == 0 || c.Parts[i-1].Kind == 1))
			texts += string(part.B)
		case 1:
			m.must(len(part.B) == 0 && part.Group >= 0 && part.Group <= groups)
			m.n += len("&")
			if part.Group > 0 {
				m.n += len(`\1`) - len("&")
			}
		default:
			m.none = true
		}
	}
	m.n += len(texts) + count(texts, `\`) + count(texts, "&") + count(texts, "\n")
	m.fewest(regex, texts)
	for _, flag := range []bool{c.All, c.Print, c.File != -1} {
		if flag {
			m.n++
		}
	}
	m.number(c.Nth, 1, 512, 1)
	if c.File != -1 {
		m.file(c.File)
	}
}

func count(s, part string) int { return strings.Count(s, part) }

// fewest puts a \ ahead of each delimiter in the text, for the best one that the regular expression lets stand behind it.
func (m *model) fewest(regex, text string) {
	best := -1
	for _, d := range strings.Split(delims, "") {
		if n := count(text, d); fits(regex, d) && (best < 0 || n < best) {
			best = n
		}
	}
	m.must(best >= 0)
	m.n += best
}

func (m *model) rows(c api.Cmd, has *api.Cmd) {
	has.From, has.Into = c.From, c.Into
	all := string(c.From) + string(c.Into)
	m.must(len(c.From) == len(c.Into))
	for i, b := range c.From {
		m.must(bytes.IndexByte(c.From, b) == i)
	}
	m.n += 3 + len(all) + count(all, `\`) + count(all, "\n")
	m.fewest("", all)
}
