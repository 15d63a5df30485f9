package parse_test

import (
	"bytes"
	"slices"
	"strconv"
	"strings"

	"palinode/api"
	"palinode/retext"
	"palinode/swap"
)

// A maker writes chance-like scripts, and puts together, from what it wrote them for, the programs that they are.
type maker struct {
	*numbers
	extended bool
	own      string // what its labels begin with
	script   []byte
	p        api.Program
	open     []int
	to       map[string]int // the commands : by their labels
	behind   string         // what must stand behind the command ahead: a newline, or any end, or nothing
}

const (
	anyEnd = "any"
	delims = "!\"#%',-/:;<=>@_`|~"
)

func (m *maker) add(l ...string) {
	for _, s := range l {
		m.script = append(m.script, s...)
	}
}

func (m *maker) blanks() { m.add(m.one("", "", "", " ", "\t", " \t ")) }

// made makes a script of some commands, and its program.
func made(x *numbers, commands int, extended bool, own string) (string, api.Program) {
	m := &maker{numbers: x, extended: extended, own: own, to: map[string]int{}}
	if m.Intn(4) == 0 {
		m.add("#n\n")
		m.p.Quiet = true
	}
	for range commands {
		m.command()
	}
	for len(m.open) > 0 {
		m.close()
	}
	m.targets()
	if m.behind == "\n" {
		m.add(m.one("", "\n", "\n ;# end"))
	} else {
		m.add(m.one("", " ", "\n", " ; ;\n\n", "#end", "\t# end\n"))
	}
	return string(m.script), m.p
}

// gap writes what stands between two commands.
func (m *maker) gap(closes bool) {
	switch {
	case m.behind == anyEnd && !closes:
		m.add(m.one("\n", ";", " \t;", "#;}p\n", " # a\\\n", "\n\n"))
	case m.behind == "\n":
		m.add("\n")
	}
	m.add(m.one("", "", " ", "\n", ";", "\t;\n ", "# b\n", "\n#\n;#\n"))
}

// start writes all of a command up to its letter.
func (m *maker) start(letter byte, most int) api.Cmd {
	m.gap(letter == '}')
	m.behind = anyEnd
	c := api.Cmd{At: len(m.script), Kind: letter, File: api.NoFile}
	n := m.Intn(4)
	if most > 0 && n > 0 {
		c.One = m.address()
		m.blanks()
	}
	if most > 1 && n > 1 {
		m.add(",")
		m.blanks()
		c.Two = m.address()
		m.blanks()
	}
	for most > 0 && m.Intn(4) == 0 {
		c.Not = true
		m.add("!")
		m.blanks()
	}
	m.add(string([]byte{letter}))
	return c
}

func (m *maker) address() api.Addr {
	switch m.Intn(4) {
	case 0:
		m.add("$")
		return api.Addr{Kind: api.ALast}
	case 1:
		delim := "/"
		if m.Intn(2) == 0 {
			delim = m.delim()
			m.add(`\`)
		}
		m.add(delim)
		re, _ := m.regex(delim)
		m.add(delim)
		return api.Addr{Kind: api.ARe, Re: re}
	}
	n := m.Intn(3) * m.Intn(1000)
	if m.Intn(10) == 0 {
		n = api.MaxNumber - m.Intn(2)
	}
	m.add(m.one("", "", "0", "00"), strconv.Itoa(n))
	return api.Addr{Kind: api.ALine, N: n}
}

func (m *maker) delim() string { return m.one(strings.Split(delims, "")...) }

// regex writes a regular expression, and tells its number, and how many groups a replacement may name.
func (m *maker) regex(delim string) (int, int) {
	some := []string{"", "a", "x*", `^\n\.`, "[xyz]b$", `\[c\\`, "\\\n"}
	if m.extended {
		some = append(some, "(a)(b)?", "x+y", "(c){2}")
	} else {
		some = append(some, `\(a\)b\1`, `\(x*\)\(y\)`, `*c\{2\}`)
	}
	text := m.one(some...)
	if m.Intn(4) == 0 {
		text += `\` + delim
	}
	m.add(text)
	if text == "" {
		return api.LastRe, 9
	}
	re, _, e := retext.Parse([]byte(text), m.extended)
	if e != api.OK {
		panic(text)
	}
	m.p.Res = append(m.p.Res, re)
	m.p.Texts = append(m.p.Texts, []byte(text))
	return len(m.p.Res) - 1, re.Groups
}

func (m *maker) put(c api.Cmd) { m.p.Cmds = append(m.p.Cmds, c) }

// command writes a command of any kind.
func (m *maker) command() {
	switch kind := m.Intn(14); {
	case kind == 0 && len(m.open) < api.MaxDepth:
		c := m.start('{', 2)
		m.open = append(m.open, len(m.p.Cmds))
		m.behind = ""
		m.put(c)
	case kind == 1 && len(m.open) > 0:
		m.close()
	case kind == 2:
		m.put(m.words("acirw"[m.Intn(5)]))
	case kind == 3:
		m.put(m.coded("lq"[m.Intn(2)]))
	case kind == 4:
		m.put(m.jump("bt"[m.Intn(2)]))
	case kind < 8:
		m.put(m.swaps())
	case kind == 8:
		m.put(m.rows())
	case kind == 9:
		m.target(m.own + m.one("1", "b_Z", "c"))
	default:
		letter := "=dDgGhHnNpPx"[m.Intn(12)]
		m.put(m.start(letter, m.most(letter)))
		m.blanks()
	}
}

// most tells how many addresses a command may have.
func (m *maker) most(letter byte) int {
	if strings.IndexByte("aiqr=", letter) >= 0 {
		return 1
	}
	return 2
}

func (m *maker) close() {
	c := m.start('}', 0)
	last := len(m.open) - 1
	m.p.Cmds[m.open[last]].To = len(m.p.Cmds)
	m.open = m.open[:last]
	m.put(c)
	m.blanks()
}

// words writes a command that ends with a line, or lines.
func (m *maker) words(letter byte) api.Cmd {
	c := m.start(letter, m.most(letter))
	m.behind = "\n"
	m.blanks()
	switch letter {
	case 'r':
		name := m.one("in", "a;b}", "#", "/dev/stdout", strings.Repeat("x", 64))
		m.add(name)
		c.Text = []byte(name)
	case 'w':
		c.File = m.file()
	default:
		m.add(`\`)
		m.blanks()
		m.add("\n")
		text := m.one("", "x", " a;b}c#d", `\`+"\n", `\ab\\`, "\\\n \\\\n\xff\\\n")
		m.add(text)
		c.Text = []byte(map[string]string{
			"": "\n", "x": "x\n", " a;b}c#d": " a;b}c#d\n", `\` + "\n": "\n\n", `\ab\\`: "ab\\\n",
			"\\\n \\\\n\xff\\\n": "\n \\n\xff\n\n",
		}[text])
	}
	return c
}

func (m *maker) file() int {
	name := m.one("out", "out2", "w;", "a}b#", "/dev/stdout", "/dev/stdout2")
	m.add(name)
	if name == "/dev/stdout" {
		return api.StdOut
	}
	if !slices.Contains(m.p.Names, name) {
		m.p.Names = append(m.p.Names, name)
	}
	return slices.Index(m.p.Names, name)
}

func (m *maker) coded(letter byte) api.Cmd {
	c := m.start(letter, m.most(letter))
	c.Code = map[byte]int{'l': 70, 'q': 0}[letter]
	m.blanks()
	if m.Intn(2) == 0 {
		c.Code = m.Intn(256)
		m.add(m.one("", "00"), strconv.Itoa(c.Code))
		m.blanks()
	}
	return c
}

// label writes a label.
func (m *maker) label() string {
	label := m.own + m.one("", "1", "b_Z", strings.Repeat("y", api.MaxLabel-len(m.own)))
	m.add(label)
	return label
}

// jump writes a jump; what it goes to is known when all is written.
func (m *maker) jump(letter byte) api.Cmd {
	c := m.start(letter, 2)
	m.blanks()
	if m.Intn(3) > 0 {
		c.Label = m.label()
		m.blanks()
	}
	return c
}

// target writes the command : of that label, if none has it.
func (m *maker) target(label string) {
	if _, ok := m.to[label]; ok {
		return
	}
	m.to[label] = len(m.p.Cmds)
	c := m.start(':', 0)
	m.blanks()
	m.add(label)
	m.blanks()
	c.Label = label
	m.put(c)
}

// targets writes each : that lacks, and tells the jumps where they go on.
func (m *maker) targets() {
	isJump := func(c api.Cmd) bool { return c.Kind == 'b' || c.Kind == 't' }
	for _, c := range m.p.Cmds {
		if isJump(c) && c.Label != "" {
			m.target(c.Label)
		}
	}
	for i, c := range m.p.Cmds {
		if !isJump(c) {
			continue
		}
		m.p.Cmds[i].To = len(m.p.Cmds)
		if c.Label != "" {
			m.p.Cmds[i].To = m.to[c.Label]
		}
	}
}

func (m *maker) swaps() api.Cmd {
	c := m.start('s', 2)
	delim := m.delim()
	m.add(delim)
	re, groups := m.regex(delim)
	some := []string{"", "b", "[&]", `\\\&`, `x\ny`, "\\\n", `\` + delim, "\x00\xff"}
	if groups > 0 {
		some = append(some, `(\1)`, `\1\`+strconv.Itoa(groups))
	}
	if groups == 9 {
		some = append(some, `\9`)
	}
	text := m.one(some...)
	m.add(delim, text, delim)
	parts, _, e := swap.Parse([]byte(text), groups)
	if e != api.OK {
		panic(text)
	}
	c.Re, c.Parts, c.Nth = re, parts, 1
	flags := m.Intn(8)
	for _, flag := range m.one("gp1", "g1p", "pg1", "p1g", "1gp", "1pg") {
		switch {
		case flag == 'g' && flags&1 > 0:
			c.All = true
			m.add("g")
		case flag == 'p' && flags&2 > 0:
			c.Print = true
			m.add("p")
		case flag == '1' && flags&4 > 0:
			c.Nth = 1 + m.Intn(512)
			m.add(m.one("", "0"), strconv.Itoa(c.Nth))
		}
	}
	if m.Intn(4) == 0 {
		m.add("w")
		m.blanks()
		c.File = m.file()
		m.behind = "\n"
		return c
	}
	m.blanks()
	return c
}

func (m *maker) rows() api.Cmd {
	c := m.start('y', 2)
	delim := m.delim()
	for range m.Intn(6) {
		b := "\n\\nabc\x00\xff" + delim
		from, into := b[m.Intn(len(b))], b[m.Intn(len(b))]
		if bytes.IndexByte(c.From, from) < 0 {
			c.From = append(c.From, from)
			c.Into = append(c.Into, into)
		}
	}
	m.add(delim)
	for _, row := range [][]byte{c.From, c.Into} {
		for _, b := range row {
			switch {
			case b == '\n':
				m.add(`\n`)
			case b == '\\' || b == delim[0]:
				m.add(`\`, string([]byte{b}))
			default:
				m.add(string([]byte{b}))
			}
		}
		m.add(delim)
	}
	m.blanks()
	return c
}
