package parse_test

import (
	"fmt"
	"regexp"
	"slices"
	"strconv"
	"strings"
	"testing"

	"palinode/api"
	"palinode/parse"
	"palinode/retext"
	"palinode/swap"
)

// numbers are a row of numbers that is the same each time, and seems to have no order.
type numbers uint64

// Intn tells the next number, from 0 to n - 1.
func (x *numbers) Intn(n int) int {
	*x = *x*6364136223846793005 + 1442695040888963407
	return int(*x>>33) % n
}

// one tells one of these.
func (x *numbers) one(of ...string) string { return of[x.Intn(len(of))] }

// seen tells all that x has as a text; lists that are nil and such as have no elements are the same in it.
func seen(x any) string { return fmt.Sprintf("%+v", x) }

// told is what Parse tells of a script, as a text.
func told(script string, extended bool) string {
	s, at, e := parse.Parse([]byte(script), extended)
	if e != api.OK || s == nil {
		return faultSeen(s == nil, at, e)
	}
	return seen(s.Program()) + " at " + strconv.Itoa(at)
}

func faultSeen(isNil bool, at int, e api.Errno) string {
	return fmt.Sprintf("nil: %v, %d at %d", isNil, int(e), at)
}

// meant is what Parse is to tell of a script, as a text.
func meant(script string, extended bool) string {
	p, at, e := modelParse(script, extended)
	if e != api.OK {
		return faultSeen(true, at, e)
	}
	return seen(p) + " at 0"
}

// sameAsModel parses a script in both ways.
func sameAsModel(t *testing.T, script string) {
	t.Helper()
	for _, extended := range []bool{false, true} {
		if got, want := told(script, extended), meant(script, extended); got != want {
			t.Fatalf("%q, %v:\n%s, not\n%s", script, extended, got, want)
		}
	}
}

// shortTexts are all texts of at most that many words, each of them one of those of of.
func shortTexts(most int, of ...string) []string {
	all := []string{""}
	for from := 0; most > 0; most-- {
		end := len(all)
		for _, s := range all[from:end] {
			for _, word := range of {
				all = append(all, s+word)
			}
		}
		from = end
	}
	return all
}

// The model reads a script by the words of the chapter: what may stand at a place is told by a pattern, what stands behind a letter by the table.
type model struct {
	script   string
	at       int
	extended bool
	p        api.Program
	blocks   []int
	labels   []string // of each command, if it is a : , else a byte that no label has
}

// modelFault is what the model stops by.
type modelFault struct {
	at int
	e  api.Errno
}

var compiled = map[string]*regexp.Regexp{}

// sees tells what stands at the place and is as the pattern says.
func (m *model) sees(pattern string) (string, bool) {
	re := compiled[pattern]
	if re == nil {
		re = regexp.MustCompile(`\A(?s:` + pattern + `)`)
		compiled[pattern] = re
	}
	l := re.FindStringIndex(m.script[m.at:])
	if l == nil {
		return "", false
	}
	return m.script[m.at:][:l[1]], true
}

// eat passes over what sees tells.
func (m *model) eat(pattern string) (string, bool) {
	s, ok := m.sees(pattern)
	m.at += len(s)
	return s, ok
}

func (m *model) fail(at int, e api.Errno) { panic(modelFault{at, e}) }

func (m *model) failIf(is bool, at int, e api.Errno) {
	if is {
		m.fail(at, e)
	}
}

func (m *model) blanks() { m.eat(`[ \t]*`) }

const (
	modelAddress = `[0-9]|\$|/|\\`
	modelDelim   = "[!\"#%',/:;<=>@_`|~-]"
)

func modelParse(script string, extended bool) (p api.Program, at int, e api.Errno) {
	if len(script) > 4096 {
		return api.Program{}, 0, api.ErrLong
	}
	defer func() {
		switch x := recover().(type) {
		case nil:
		case modelFault:
			p, at, e = api.Program{}, x.at, x.e
		default:
			panic(x)
		}
	}()
	m := &model{script: script, extended: extended}
	_, m.p.Quiet = m.eat(`#n(\n|\z)`)
	for {
		m.eat(`([ \t\n;]|#[^\n]*)*`)
		if m.at == len(script) {
			break
		}
		m.command()
	}
	m.failIf(len(m.blocks) > 0, len(script), api.ErrBlock)
	for i, c := range m.p.Cmds {
		if strings.IndexByte("bt", c.Kind) >= 0 {
			m.p.Cmds[i].To = slices.Index(append(m.labels, c.Label), c.Label)
			m.failIf(c.Label != "" && m.p.Cmds[i].To == len(m.labels), c.At, api.ErrLabel)
		}
	}
	return m.p, 0, api.OK
}

func (m *model) command() {
	c := api.Cmd{At: m.at, File: -1}
	addresses := 0
	if _, ok := m.sees(modelAddress); ok {
		c.One = m.address()
		addresses = 1
		if _, ok := m.eat(`[ \t]*,[ \t]*`); ok {
			_, ok = m.sees(modelAddress)
			m.failIf(!ok, m.at, api.ErrAddr)
			c.Two = m.address()
			addresses = 2
		}
		m.blanks()
	}
	_, c.Not = m.eat(`(![ \t]*)+`)
	letter, ok := m.sees("[{}=dDgGhHnNpPx:btaciqlrwsy#]")
	m.failIf(!ok, m.at, api.ErrCommand)
	c.Kind = letter[0]
	m.failIf(strings.Contains(":}#", letter) && (c.Not || addresses > 0), m.at, api.ErrAddr)
	m.failIf(strings.Contains("aiqr=", letter) && addresses > 1, m.at, api.ErrAddr)
	m.failIf(letter == "}" && len(m.blocks) == 0, m.at, api.ErrBlock)
	m.failIf(len(m.p.Cmds) >= 200 || letter == "{" && len(m.blocks) >= 20, m.at, api.ErrFull)
	m.at++
	m.labels = append(m.labels, "\x00")
	m.p.Cmds = append(m.p.Cmds, m.behind(c))
}

func (m *model) address() api.Addr {
	if _, ok := m.eat(`\$`); ok {
		return api.Addr{Kind: 2}
	}
	if n, ok := m.number(1 << 31); ok {
		return api.Addr{Kind: 1, N: n}
	}
	m.eat(`\\`)
	first, l := m.between(1)
	re, _ := m.regex(first+1, l[0])
	return api.Addr{Kind: 3, Re: re}
}

func (m *model) number(most int) (int, bool) {
	digits, ok := m.sees(`[0-9]+`)
	if !ok {
		return 0, false
	}
	n, err := strconv.Atoi(digits)
	m.failIf(err != nil || n > most, m.at, api.ErrRange)
	m.at += len(digits)
	return n, true
}

// between tells the place of a delimiter, and so many texts, each up to that delimiter again.
func (m *model) between(n int) (first int, l []string) {
	first = m.at
	delim, ok := m.eat(modelDelim)
	m.failIf(!ok, first, api.ErrDelim)
	quoted := regexp.QuoteMeta(delim)
	for range n {
		s, ok := m.eat(`([^\\\n` + quoted + `]|\\.)*` + quoted)
		m.failIf(!ok, first, api.ErrDelim)
		l = append(l, s[:len(s)-1])
	}
	return first, l
}

// regex tells the number of a regular expression, and how many groups it has.
func (m *model) regex(at int, text string) (int, int) {
	if text == "" {
		return -1, 9
	}
	re, wrongAt, e := retext.Parse([]byte(text), m.extended)
	m.failIf(e != api.OK, at+wrongAt, e)
	m.p.Res = append(m.p.Res, re)
	m.p.Texts = append(m.p.Texts, []byte(text))
	return len(m.p.Res) - 1, re.Groups
}

// behind reads what stands behind a letter, and the command's end.
func (m *model) behind(c api.Cmd) api.Cmd {
	switch c.Kind {
	case '{':
		m.blocks = append(m.blocks, len(m.p.Cmds))
		return c
	case '}':
		m.p.Cmds[m.blocks[len(m.blocks)-1]].To = len(m.p.Cmds)
		m.blocks = m.blocks[:len(m.blocks)-1]
	case ':', 'b', 't':
		c.Label = m.label(c.Kind == ':')
	case 'a', 'c', 'i':
		c.Text = m.text()
		return c
	case 'l', 'q':
		c.Code = map[byte]int{'l': 70, 'q': 0}[c.Kind]
		m.blanks()
		if n, ok := m.number(255); ok {
			c.Code = n
		}
	case 'r':
		name, _ := m.name()
		c.Text = []byte(name)
		return c
	case 'w':
		c.File = m.file()
		return c
	case 's':
		if m.swap(&c); c.File != -1 {
			return c
		}
	case 'y':
		first, l := m.between(2)
		delim := m.script[first : first+1]
		from := m.row(first+1, delim, l[0])
		into := m.row(first+2+len(l[0]), delim, l[1])
		twice := false
		for i := range from {
			twice = twice || strings.Count(from, from[i:i+1]) > 1
		}
		m.failIf(twice || len(from) != len(into), first, api.ErrPair)
		c.From, c.Into = []byte(from), []byte(into)
	}
	m.blanks()
	_, ok := m.sees(`[\n;}#]|\z`)
	m.failIf(!ok, m.at, api.ErrExtra)
	return c
}

func (m *model) label(isNew bool) string {
	m.blanks()
	label, _ := m.sees(`[0-9A-Za-z_]*`)
	m.failIf(len(label) > 16, m.at, api.ErrLabel)
	if isNew {
		m.failIf(label == "", m.at, api.ErrLabel)
		m.failIf(slices.Contains(m.labels, label), m.at, api.ErrThere)
		m.labels[len(m.labels)-1] = label
	}
	m.at += len(label)
	return label
}

func (m *model) text() []byte {
	for _, sign := range []string{`\\`, `\n`} {
		m.blanks()
		_, ok := m.eat(sign)
		m.failIf(!ok, m.at, api.ErrExtra)
	}
	at := m.at
	text, _ := m.eat(`([^\\\n]|\\.)*`)
	_, ends := m.eat(`\n|\z`)
	m.failIf(!ends, at, api.ErrEscape)
	return []byte(regexp.MustCompile(`(?s)\\(.)`).ReplaceAllString(text, "$1") + "\n")
}

func (m *model) name() (string, int) {
	m.blanks()
	at := m.at
	name, _ := m.eat(`[^\n]*`)
	m.eat(`\n`)
	m.failIf(!regexp.MustCompile(`\A[!-~]{1,64}\z`).MatchString(name), at, api.ErrName)
	return name, at
}

func (m *model) file() int {
	name, at := m.name()
	if name == "/dev/stdout" {
		return -2
	}
	if !slices.Contains(m.p.Names, name) {
		m.failIf(len(m.p.Names) >= 16, at, api.ErrFull)
		m.p.Names = append(m.p.Names, name)
	}
	return slices.Index(m.p.Names, name)
}

func (m *model) swap(c *api.Cmd) {
	first, l := m.between(2)
	re, groups := m.regex(first+1, l[0])
	c.Re = re
	parts, at, e := swap.Parse([]byte(l[1]), groups)
	m.failIf(e != api.OK, first+2+len(l[0])+at, e)
	c.Parts, c.Nth = parts, 1
	had := ""
	for {
		at := m.at
		flag, ok := m.eat(`[gpw]|[0-9]+`)
		if !ok {
			return
		}
		kind := flag[:1]
		if strings.Contains("0123456789", kind) {
			n, err := strconv.Atoi(flag)
			m.failIf(err != nil || n > 512, at, api.ErrRange)
			m.failIf(n == 0, at, api.ErrFlag)
			kind, c.Nth = "1", n
		}
		m.failIf(strings.Contains(had, kind), at, api.ErrFlag)
		had += kind
		c.All, c.Print = strings.Contains(had, "g"), strings.Contains(had, "p")
		if kind == "w" {
			c.File = m.file()
			return
		}
	}
}

// row tells what the text of a row at that place is written for.
func (m *model) row(at int, delim, text string) string {
	row := ""
	for text != "" {
		n := 1
		next := text[:1]
		if next == `\` {
			n = 2
			next = text[1:2]
			m.failIf(!strings.Contains(`\n`+delim, next), at, api.ErrEscape)
			if next == "n" {
				next = "\n"
			}
		}
		row += next
		at, text = at+n, text[n:]
	}
	return row
}
