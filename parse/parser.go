package parse

import (
	"bytes"
	"slices"
	"strings"

	"palinode/api"
	"palinode/files"
	"palinode/retext"
	"palinode/scan"
	"palinode/swap"
)

const (
	letters  = "{}=dDgGhHnNpPx:btacilqrwsy"
	bare     = ":}#"   // stand ahead of no line: neither an address nor a ! may be ahead of them
	single   = "aiqr=" // have one address at most
	ends     = "\n;}#" // end a command, and aren't its own
	selfEnds = "{acir" // need no end behind what they have
)

// The standard output's name, which is none of a file that w writes.
const stdOut = "/dev/stdout"

// A fault is what a parser gives up by.
type fault struct {
	at int
	e  api.Errno
}

func giveUp(at int, e api.Errno) { panic(fault{at, e}) }

// want gives up by an error that was told of what stands at that place.
func want(at int, e api.Errno) {
	if e != api.OK {
		giveUp(at, e)
	}
}

// A parser goes over a script as a cursor, and puts its program together.
type parser struct {
	*scan.Cursor
	api.Program
	extended bool
	labels   map[string]int // the commands : by their labels
	open     []int          // the commands { whose blocks have no end yet
}

func opened(script []byte, extended bool) *parser {
	p := &parser{Cursor: scan.Open(script), extended: extended, labels: map[string]int{}}
	first, _, _ := bytes.Cut(script, []byte("\n"))
	p.Quiet = string(first) == "#n"
	return p
}

// commands reads all of the script.
func (p *parser) commands() {
	for p.gap(); !p.over(); p.gap() {
		p.command()
	}
	if len(p.open) > 0 {
		giveUp(p.At(), api.ErrBlock)
	}
	p.jumps()
}

// gap passes over what stands between two commands: #n is passed over as any other # is.
func (p *parser) gap() {
	for {
		p.Skip(' ', '\t', '\n', ';')
		if !p.comes('#') {
			return
		}
		p.Rest()
	}
}

func (p *parser) blanks() { p.Skip(' ', '\t') }

// over tells whether the place is the script's end.
func (p *parser) over() bool {
	_, more := p.Peek()
	return !more
}

// comes tells whether c stands at the place.
func (p *parser) comes(c byte) bool {
	b, ok := p.Peek()
	return ok && b == c
}

// take passes over c, if it stands at the place.
func (p *parser) take(c byte) bool {
	is := p.comes(c)
	if is {
		p.Next()
	}
	return is
}

// command reads a command, which begins at the place.
func (p *parser) command() {
	c := api.Cmd{At: p.At(), File: api.NoFile}
	c.One, c.Two = p.addresses()
	for p.take('!') {
		c.Not = true
		p.blanks()
	}
	c.Kind = p.letter(c)
	p.behind(&c)
	// What writes to a file has ended with that file's name.
	if !has(selfEnds, c.Kind) && c.File == api.NoFile {
		p.end()
	}
	p.Cmds = append(p.Cmds, c)
}

func has(some string, c byte) bool { return strings.IndexByte(some, c) >= 0 }

// addresses reads up to two addresses, and the blanks behind them.
func (p *parser) addresses() (one, two api.Addr) {
	one, ok := p.address()
	p.blanks()
	if !ok || !p.take(',') {
		return one, two
	}
	p.blanks()
	if two, ok = p.address(); !ok {
		giveUp(p.At(), api.ErrAddr)
	}
	p.blanks()
	return one, two
}

// address reads an address, if one stands at the place.
func (p *parser) address() (api.Addr, bool) {
	if n, ok := p.number(api.MaxNumber); ok {
		return api.Addr{Kind: api.ALine, N: n}, true
	}
	switch {
	case p.take('$'):
		return api.Addr{Kind: api.ALast}, true
	case p.take('\\') || p.comes('/'):
		_, l := p.parts(1)
		re, _ := p.regex(l[0])
		return api.Addr{Kind: api.ARe, Re: re}, true
	}
	return api.Addr{}, false
}

// number reads a number, if one stands at the place.
func (p *parser) number(most int) (int, bool) {
	at := p.At()
	n, e := p.Num(most)
	if e == api.ErrForm {
		return 0, false
	}
	want(at, e)
	return n, true
}

// A part is what stands ahead of a delimiter, and where it begins.
type part struct {
	at int
	b  []byte
}

// parts reads a delimiter, and so many parts, each up to that delimiter again.
func (p *parser) parts(n int) (delim byte, l []part) {
	first := p.At()
	delim, _ = p.Next()
	for range n {
		at := p.At()
		b, e := p.Until(delim)
		want(first, e)
		l = append(l, part{at, b})
	}
	return delim, l
}

// regex tells the number of the regular expression that w is, and how many groups a replacement may name. Which one the last one is isn't known here, so of that it may name any.
func (p *parser) regex(w part) (number, groups int) {
	if len(w.b) == 0 {
		return api.LastRe, api.MaxGroups
	}
	re, at, e := retext.Parse(w.b, p.extended)
	want(w.at+at, e)
	p.Res = append(p.Res, re)
	p.Texts = append(p.Texts, w.b)
	return len(p.Res) - 1, re.Groups
}

// letter reads the letter of c, of which all that stands ahead of it is known.
func (p *parser) letter(c api.Cmd) byte {
	at := p.At()
	kind, _ := p.Next()
	switch {
	case !has(letters, kind) && kind != '#':
		giveUp(at, api.ErrCommand)
	case has(bare, kind) && (c.One.Kind != api.ANone || c.Not):
		giveUp(at, api.ErrAddr)
	case has(single, kind) && c.Two.Kind != api.ANone:
		giveUp(at, api.ErrAddr)
	case kind == '}' && len(p.open) == 0:
		giveUp(at, api.ErrBlock)
	case len(p.Cmds) == api.MaxCmds:
		giveUp(at, api.ErrFull)
	case kind == '{' && len(p.open) == api.MaxDepth:
		giveUp(at, api.ErrFull)
	}
	return kind
}

// behind reads what stands behind the letter of c.
func (p *parser) behind(c *api.Cmd) {
	switch c.Kind {
	case '{':
		p.open = append(p.open, len(p.Cmds))
	case '}':
		p.close()
	case ':':
		c.Label = p.newLabel()
	case 'b', 't':
		c.Label, _ = p.label()
	case 'a', 'c', 'i':
		c.Text = p.text()
	case 'l':
		c.Code = p.code(api.FoldAt)
	case 'q':
		c.Code = p.code(0)
	case 'r':
		name, _ := p.name()
		c.Text = []byte(name)
	case 'w':
		c.File = p.file()
	case 's':
		p.swaps(c)
	case 'y':
		c.From, c.Into = p.rows()
	}
}

// end passes over the blanks behind a command; what may stand behind it stays.
func (p *parser) end() {
	p.blanks()
	if c, more := p.Peek(); more && !has(ends, c) {
		giveUp(p.At(), api.ErrExtra)
	}
}

// close ends the innermost block by the command that is read.
func (p *parser) close() {
	last := len(p.open) - 1
	p.Cmds[p.open[last]].To = len(p.Cmds)
	p.open = p.open[:last]
}

// label reads a label, or none, and tells where it begins.
func (p *parser) label() (label string, at int) {
	p.blanks()
	at = p.At()
	label = p.Word()
	if len(label) > api.MaxLabel {
		giveUp(at, api.ErrLabel)
	}
	return label, at
}

// newLabel reads the label of the command that is read.
func (p *parser) newLabel() string {
	label, at := p.label()
	if label == "" {
		giveUp(at, api.ErrLabel)
	}
	if _, there := p.labels[label]; there {
		giveUp(at, api.ErrThere)
	}
	p.labels[label] = len(p.Cmds)
	return label
}

// jumps tells each b and t where it goes on, as the labels of all commands are known now.
func (p *parser) jumps() {
	p.labels[""] = len(p.Cmds) // no : has it, and a jump without a label goes behind all
	for i, c := range p.Cmds {
		if c.Kind != 'b' && c.Kind != 't' {
			continue
		}
		to, ok := p.labels[c.Label]
		if !ok {
			giveUp(c.At, api.ErrLabel)
		}
		p.Cmds[i].To = to
	}
}

// text reads a \ , a newline, and a text.
func (p *parser) text() []byte {
	for _, c := range []byte("\\\n") {
		p.blanks()
		if !p.take(c) {
			giveUp(p.At(), api.ErrExtra)
		}
	}
	at := p.At()
	text, e := p.Text()
	want(at, e)
	return text
}

// code reads a number; none is what it is where none stands.
func (p *parser) code(none int) int {
	p.blanks()
	if n, ok := p.number(api.MaxCode); ok {
		return n
	}
	return none
}

// name reads a file's name, and tells where it begins.
func (p *parser) name() (name string, at int) {
	p.blanks()
	at = p.At()
	name = string(p.Rest())
	if !files.IsName(name) {
		giveUp(at, api.ErrName)
	}
	return name, at
}

// file reads the name of a file that is written, and tells its place in Names.
func (p *parser) file() int {
	name, at := p.name()
	if name == stdOut {
		return api.StdOut
	}
	if i := slices.Index(p.Names, name); i >= 0 {
		return i
	}
	if len(p.Names) == api.MaxFiles {
		giveUp(at, api.ErrFull)
	}
	p.Names = append(p.Names, name)
	return len(p.Names) - 1
}

// swaps reads what stands behind the letter s.
func (p *parser) swaps(c *api.Cmd) {
	_, l := p.parts(2)
	re, groups := p.regex(l[0])
	parts, at, e := swap.Parse(l[1].b, groups)
	want(l[1].at+at, e)
	c.Re, c.Parts = re, parts
	p.flags(c)
}

// flags reads the flags of an s.
func (p *parser) flags(c *api.Cmd) {
	c.Nth = 1
	numbered := false
	for {
		at := p.At()
		n, isNumber := p.number(api.MaxTimes)
		switch {
		case isNumber:
			once(&numbered, at)
			c.Nth = nth(n, at)
		case p.take('g'):
			once(&c.All, at)
		case p.take('p'):
			once(&c.Print, at)
		case p.take('w'):
			c.File = p.file()
			return
		default:
			return
		}
	}
}

// once sets a flag that may come but once.
func once(flag *bool, at int) {
	if *flag {
		giveUp(at, api.ErrFlag)
	}
	*flag = true
}

// nth is the number of a flag.
func nth(n, at int) int {
	if n == 0 {
		giveUp(at, api.ErrFlag)
	}
	return n
}

// rows reads what stands behind the letter y.
func (p *parser) rows() (from, into []byte) {
	delim, l := p.parts(2)
	from, into = row(l[0], delim), row(l[1], delim)
	if len(from) != len(into) || anyTwice(from) {
		giveUp(l[0].at-1, api.ErrPair)
	}
	return from, into
}

// row tells the bytes that w is written for. Behind each \ that none takes along a byte stands, as it would have taken along the delimiter else.
func row(w part, delim byte) []byte {
	var b []byte
	for i := 0; i < len(w.b); i++ {
		c := w.b[i]
		if c == '\\' {
			i++
			if c = w.b[i]; !has(`\n`, c) && c != delim {
				giveUp(w.at+i-1, api.ErrEscape)
			}
			if c == 'n' {
				c = '\n'
			}
		}
		b = append(b, c)
	}
	return b
}

func anyTwice(b []byte) bool {
	for i, c := range b {
		if bytes.IndexByte(b[:i], c) >= 0 {
			return true
		}
	}
	return false
}
