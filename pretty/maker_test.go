package pretty_test

import (
	"bytes"
	"slices"
	"strings"
	"testing"

	"palinode/api"
	"palinode/parse"
	"palinode/pretty"
	"palinode/retext"
)

// numbers are a row of numbers that is the same each time, and seems to have no order.
type numbers uint64

// Intn tells the next number, from 0 to n - 1.
func (x *numbers) Intn(n int) int {
	*x = *x*6364136223846793005 + 1442695040888963407
	return int(*x>>33) % n
}

// one tells one of these.
func (x *numbers) one(of ...string) string { return of[x.Intn(len(of))] }

// some tells up to most of these, one behind the other.
func (x *numbers) some(most int, of ...string) string {
	s := ""
	for range x.Intn(most + 1) {
		s += x.one(of...)
	}
	return s
}

// A maker puts chance-like programs together that a script says.
type maker struct {
	*numbers
	extended bool
	p        api.Program
	open     []int
}

// made makes a program of so many commands, and what blocks and jumps want.
func made(x *numbers, commands int, extended bool) api.Program {
	m := &maker{numbers: x, extended: extended}
	m.p.Quiet = x.Intn(3) == 0
	for range commands {
		m.command()
	}
	for len(m.open) > 0 {
		m.close()
	}
	m.targets()
	return m.p
}

func (m *maker) put(c api.Cmd) { m.p.Cmds = append(m.p.Cmds, c) }

// command puts a command of any kind.
func (m *maker) command() {
	letters := "{{}}=dDgGhHnNpPxbtaacciilqrrwwssssssyyyy"
	c := api.Cmd{Kind: letters[m.Intn(len(letters))], File: api.NoFile, At: m.Intn(5000) - 100}
	if c.Kind == '}' {
		if len(m.open) > 0 {
			m.close()
		}
		return
	}
	n := m.Intn(3)
	if n > 0 {
		c.One = m.address()
	}
	if n > 1 && !among("aiqr=", c.Kind) {
		c.Two = m.address()
	}
	c.Not = m.Intn(4) == 0
	m.behind(&c)
	m.put(c)
}

func (m *maker) close() {
	last := len(m.open) - 1
	m.p.Cmds[m.open[last]].To = len(m.p.Cmds)
	m.open = m.open[:last]
	m.put(api.Cmd{Kind: '}', File: api.NoFile})
}

func (m *maker) address() api.Addr {
	switch m.Intn(3) {
	case 0:
		return api.Addr{Kind: api.ALast}
	case 1:
		n, _ := m.regex()
		return api.Addr{Kind: api.ARe, Re: n}
	}
	return api.Addr{Kind: api.ALine, N: []int{0, 1, 9, 10, 1<<31 - 1, 1 << 31}[m.Intn(6)]}
}

// regex puts a regular expression, and tells its number, and how many groups a replacement may name.
func (m *maker) regex() (int, int) {
	words := []string{"a", ".", `\n`, `\\`, "\\\n", "[/,]", "[#]", `[\]`, "-", "_", `\/`, ";", "}", "#", "|", "$", "\xff", `!"#%',-`, "/:;<=>@_`", "|~"}
	if m.extended {
		words = append(words, "(a)", "x+")
	} else {
		words = append(words, `\(a\)`, "x*")
	}
	text := m.some(6, words...)
	re, _, e := retext.Parse([]byte(text), m.extended)
	if text == "" || e != api.OK || re.Groups > 9 || !anyFits(text) {
		return api.LastRe, 9
	}
	m.p.Res = append(m.p.Res, re)
	m.p.Texts = append(m.p.Texts, []byte(text))
	return len(m.p.Res) - 1, re.Groups
}

func anyFits(text string) bool {
	return slices.ContainsFunc(strings.Split(delims, ""), func(d string) bool { return fits(text, d) })
}

// behind puts what stands behind the letter of c.
func (m *maker) behind(c *api.Cmd) {
	switch c.Kind {
	case '{':
		if len(m.open) == api.MaxDepth {
			c.Kind = 'p'
			return
		}
		m.open = append(m.open, len(m.p.Cmds))
	case 'b', 't':
		c.Label = m.one("", "a", "Z_9", strings.Repeat("y", 16))
	case 'a', 'c', 'i':
		c.Text = []byte(m.some(5, "\n", `\`, " ", "\t", "x", ";}", "#", "\x00") + "\n")
	case 'l', 'q':
		c.Code = []int{0, 1, 70, 71, 255}[m.Intn(5)]
	case 'r':
		c.Text = []byte(m.one("in", stdout, "#;}", strings.Repeat("x", 64)))
	case 'w':
		c.File = m.file()
	case 's':
		m.swap(c)
	case 'y':
		m.rows(c)
	}
}

func (m *maker) file() int {
	name := m.one(stdout, "out", "log", "}", strings.Repeat("n", 64))
	if name == stdout {
		return api.StdOut
	}
	if !slices.Contains(m.p.Names, name) {
		m.p.Names = append(m.p.Names, name)
	}
	return slices.Index(m.p.Names, name)
}

func (m *maker) swap(c *api.Cmd) {
	n, groups := m.regex()
	c.Re, c.Nth = n, []int{1, 2, 10, 512}[m.Intn(4)]
	c.All, c.Print = m.Intn(2) == 0, m.Intn(2) == 0
	if m.Intn(3) == 0 {
		c.File = m.file()
	}
	for range m.Intn(5) {
		last := len(c.Parts) - 1
		if m.Intn(2) == 0 || last >= 0 && c.Parts[last].Kind == api.PText {
			c.Parts = append(c.Parts, api.Part{Kind: api.PGroup, Group: m.Intn(groups + 1)})
		} else {
			text := m.some(9, "a", "0", "\n", "&", "\x00", `\`, "/", ",", ";", m.one(strings.Split(delims, "")...), delims) + "-"
			c.Parts = append(c.Parts, api.Part{B: []byte(text)})
		}
	}
}

func (m *maker) rows(c *api.Cmd) {
	bytesOf := "\\\nabn\x00\xff" + delims
	for range m.Intn(9) + m.Intn(3)*m.Intn(40) {
		b := bytesOf[m.Intn(len(bytesOf))]
		if bytes.IndexByte(c.From, b) < 0 {
			c.From = append(c.From, b)
			c.Into = append(c.Into, bytesOf[m.Intn(len(bytesOf))])
		}
	}
}

// targets puts each : that lacks, some of them ahead of all, and tells jumps and blocks where they go on.
func (m *maker) targets() {
	var labels []string
	for _, c := range m.p.Cmds {
		if among("bt", c.Kind) && c.Label != "" && !slices.Contains(labels, c.Label) {
			labels = append(labels, c.Label)
		}
	}
	for _, label := range labels {
		c := api.Cmd{Kind: ':', Label: label, File: api.NoFile}
		if m.Intn(2) == 0 {
			m.put(c)
			continue
		}
		m.p.Cmds = slices.Insert(m.p.Cmds, 0, c)
		for i := range m.p.Cmds {
			if m.p.Cmds[i].Kind == '{' {
				m.p.Cmds[i].To++
			}
		}
	}
	for i, c := range m.p.Cmds {
		if among("bt", c.Kind) {
			m.p.Cmds[i].To = (&model{p: m.p}).target(c.Label)
		}
	}
}

// P17.1 and P17.2: chance-like programs that a script says have one, which is no longer than it must be.
func TestMade(t *testing.T) {
	x := numbers(17)
	for i := range 4000 {
		extended := i%2 == 1
		p := made(&x, i%30, extended)
		b, ok := ask(t, p, extended)
		if !ok {
			t.Fatalf("%s: none", seen(p))
		}
		if again, _ := pretty.Text(p, extended); !bytes.Equal(again, b) {
			t.Fatalf("%q, then %q", b, again)
		}
		ask(t, p, !extended)
	}
}

// odd are numbers that most things don't have.
func (x *numbers) odd() int {
	return []int{-1 << 63, -3, -2, -1, 0, 1, 2, 3, 7, 70, 255, 256, 512, 513, 1 << 31, 1<<31 + 1, 1<<63 - 1}[x.Intn(17)]
}

// text tells bytes, at times such as a part, a row, a text of a program might have.
func (x *numbers) text() []byte {
	return []byte(x.one("", "", "\n", "a", "a\n", `\`, `\`+"\n", "/", "a/", "ab\nc", "[a", `\(a\)`, "(a)", "out", stdout, "x y", "aa", ";p", "\np\n", "#"))
}

// spoil changes one thing of a command.
func (x *numbers) spoil(c *api.Cmd) {
	addr := &c.One
	if x.Intn(2) == 0 {
		addr = &c.Two
	}
	switch x.Intn(20) {
	case 0:
		addr.Kind = x.Intn(6) - 1
	case 1:
		addr.N = x.odd()
	case 2:
		addr.Re = x.odd()
	case 3:
		c.Not = !c.Not
	case 4:
		c.Kind = "{}=dDgGhHnNpPx:btacilqrwsy#1$/ ;\n\x00\xff"[x.Intn(34)]
	case 5:
		c.To = x.odd()
	case 6:
		c.To += x.Intn(5) - 2
	case 7:
		c.Text = x.text()
	case 8:
		c.Label = string(x.text())
	case 9:
		c.Re = x.odd()
	case 10:
		c.Parts = append(slices.Clone(c.Parts), api.Part{Kind: x.Intn(4) - 1, Group: x.Intn(12) - 1, B: x.text()})
	case 11:
		c.Parts = []api.Part{{Kind: x.Intn(3), Group: x.Intn(3), B: x.text()}}
	case 12:
		c.All = !c.All
	case 13:
		c.Print = !c.Print
	case 14:
		c.Nth = x.odd()
	case 15:
		c.File = x.odd()
	case 16:
		c.Code = x.odd()
	case 17:
		c.From = x.text()
	case 18:
		c.Into = x.text()
	case 19:
		c.From, c.Into = c.Into, c.From
	}
}

// spoilAll changes one thing of a program.
func (x *numbers) spoilAll(p *api.Program) {
	i, j := x.Intn(len(p.Cmds)+1), x.Intn(len(p.Cmds)+1)
	there := i < len(p.Cmds) && j < len(p.Cmds)
	switch kind := x.Intn(24); {
	case kind == 0:
		p.Quiet = !p.Quiet
	case kind == 1 && there:
		p.Cmds[i], p.Cmds[j] = p.Cmds[j], p.Cmds[i]
	case kind == 2 && there:
		p.Cmds = slices.Delete(p.Cmds, i, i+1)
	case kind == 3 && there:
		p.Cmds = slices.Insert(p.Cmds, i, p.Cmds[j])
	case kind == 4:
		p.Names = append(slices.Clone(p.Names), string(x.text()))
	case kind == 5 && len(p.Names) > 0:
		p.Names[x.Intn(len(p.Names))] = string(x.text())
	case kind == 6 && len(p.Names) > 0:
		p.Names = p.Names[1:]
	case kind == 7:
		slices.Reverse(p.Names)
	case kind == 8 && len(p.Texts) > 0:
		p.Texts[x.Intn(len(p.Texts))] = x.text()
	case kind == 9 && len(p.Texts) > 0:
		p.Texts = p.Texts[1:]
	case kind == 10:
		p.Texts = append(slices.Clone(p.Texts), x.text())
	case kind == 11 && len(p.Res) > 0:
		p.Res[0].Groups = x.odd()
	case kind == 12 && len(p.Res) > 0:
		if nodes := p.Res[0].Nodes; len(nodes) > 0 {
			nodes[x.Intn(len(nodes))].Lo = x.odd()
		}
	case kind == 13:
		slices.Reverse(p.Res)
	case kind == 14 && len(p.Res) > 0:
		p.Res = p.Res[:len(p.Res)-1]
	case kind == 15 && len(p.Res) > 0 && len(p.Texts) > 0:
		// Another text of another regular expression, which a script may say as well.
		n := x.Intn(min(len(p.Res), len(p.Texts)))
		p.Texts = slices.Clone(p.Texts)
		p.Texts[n] = x.text()
		p.Res = slices.Clone(p.Res)
		p.Res[n], _, _ = retext.Parse(p.Texts[n], false)
	case i < len(p.Cmds):
		x.spoil(&p.Cmds[i])
	}
}

// P17.1: chance-like programs that are changed here and there have a script just if one says them.
func TestSpoiled(t *testing.T) {
	x := numbers(71)
	there := 0
	for i := range 40000 {
		extended := i%2 == 1
		p := made(&x, 1+x.Intn(6), extended)
		for range 1 + x.Intn(2) {
			x.spoilAll(&p)
		}
		if _, ok := ask(t, p, extended); ok {
			there++
		}
		ask(t, p, !extended)
	}
	if there < 5000 || there > 35000 {
		t.Error(there)
	}
}

// shortTexts are all texts of at most that many words, each of them one of those of of.
func shortTexts(most int, of ...string) []string {
	all := []string{""}
	for from := 0; most > 0; most-- {
		end := len(all)
		for _, s := range all[from:end] {
			for _, word := range of {
				all = append(all, s+word)
			}
		}
		from = end
	}
	return all
}

// toldAgain asks for a script of the program of each script that is right, in both kinds. It is no longer than the one that was there.
func toldAgain(t *testing.T, script string) (right int) {
	t.Helper()
	for _, extended := range both {
		s, _, e := parse.Parse([]byte(script), extended)
		if e != api.OK {
			continue
		}
		right++
		p := s.Program()
		if b, ok := ask(t, p, extended); !ok || len(b) > len(script) {
			t.Fatalf("%q, %v: %q, %v", script, extended, b, ok)
		}
		ask(t, p, !extended)
	}
	return right
}

// P17.2: all short scripts of some sets of words that are right have a script of their program that is no longer.
func TestShortScripts(t *testing.T) {
	for _, x := range []struct {
		most, right int
		words       []string
	}{
		{4, 60, []string{"1", ",", "$", "!", " ", "p", ";", "q"}},
		{6, 500, []string{"{", "}", "p", ";", "\n", "#"}},
		{5, 100, []string{"/", "a", `\`, ",", "\n", "p"}},
		{5, 100, []string{"#", "n", "\n", ";", "p"}},
		{5, 500, []string{":", "b", "t", "x", ";", " ", "_"}},
		{5, 500, []string{"a", `\`, "\n", " ", "x", ";"}},
		{5, 500, []string{"l", "q", "2", "5", "0", ";", "7"}},
		{5, 500, []string{"w", "r", "f", " ", "\n", stdout}},
		{5, 100, []string{"s/a/b/", "g", "p", "1", "0", "w", "f\n"}},
		{6, 100, []string{"s,", ",", `\`, "1", "&", "/", "\n"}},
		{6, 100, []string{"s/", "/", `\`, ",", "a", "n"}},
		{6, 100, []string{"y/", "/", "a", ",", `\`, "n"}},
	} {
		right := 0
		for _, script := range shortTexts(x.most, x.words...) {
			right += toldAgain(t, script)
		}
		if right < x.right {
			t.Errorf("%q: %d are right", x.words, right)
		}
	}
}

// P17.2: rows of words that are right scripts.
func TestRowsOfWords(t *testing.T) {
	words := []string{"/a/", `\,a/,`, "//", "1", ",$", ",/b/", "!", " ", "\n", "\n", ";", ";", "{", "}", "}", "p", "p\n", "=;", "a\\\nx\\\ny\n", "i\\\n\n", "r f\n", "w f\n", "w g\n", "w/dev/stdout\n",
		"s/a/b/", `s,\(a\),/\1/,`, "s;/*;,;g", `s|\||/,;|2w f` + "\n", "g", "y/ab/cd/", "y,/,;,", ":x\n", "bx;", "t\n", "b;", "l", "l70\n", "l 1;", "q", "5", "#x\n", "s/(a)|b/&/p", "d;", "x}"}
	x := numbers(1717)
	right := 0
	for range 60000 {
		right += toldAgain(t, x.one("", "", "", "#n\n")+x.some(9, words...))
	}
	if right < 15000 {
		t.Error(right)
	}
}
