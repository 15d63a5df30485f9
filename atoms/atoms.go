// Package atoms reads what basic and extended regular expressions have alike. See shared/doc/08-bre.md and shared/doc/09-ere.md.
package atoms

import (
	"bytes"

	"palinode/api"
	"palinode/brack"
	"palinode/class"
	"palinode/digit"
	"palinode/tree"
)

// None is answered in place of a node's number where something is wrong; the builder answers it too.
const None = -1

// A Parser reads a text from its first byte on, and puts nodes as it reads them. Once something is wrong, nothing more is to be read.
type Parser struct {
	tree.Builder
	text  []byte
	at    int // the place to which the text was read
	ended [api.MaxGroups + 1]bool
	e     api.Errno // what is wrong at that place
}

// New begins to read b.
func New(b []byte) Parser { return Parser{text: b} }

// Told tells the tree whose last node is root, or else the place at which something is wrong, and what.
func (p *Parser) Told(root int) (api.Re, int, api.Errno) {
	if !p.Fine() {
		return api.Re{}, p.at, p.e
	}
	re, _ := p.Re(root)
	return re, 0, api.OK
}

// Wrong says what is wrong at the place to which the text was read.
func (p *Parser) Wrong(e api.Errno) int {
	p.e = e
	return None
}

// Fine tells whether nothing is wrong so far.
func (p *Parser) Fine() bool { return p.e == api.OK }

// Ends tells whether the text ends here.
func (p *Parser) Ends() bool { return p.at == len(p.text) }

// Comes tells whether s stands here.
func (p *Parser) Comes(s string) bool { return begins(p.text[p.at:], s) }

func begins(b []byte, s string) bool { return bytes.HasPrefix(b, []byte(s)) }

// Take reads s, if it stands here, and tells whether it does.
func (p *Parser) Take(s string) bool {
	if !p.Comes(s) {
		return false
	}
	p.at += len(s)
	return true
}

// Put tells the number of a node that the builder was asked for. All its parts and numbers are looked at before, so the builder refuses it only where there are too many.
func (p *Parser) Put(number int) int {
	if number == None {
		return p.Wrong(api.ErrLong)
	}
	return number
}

// Branch puts a branch's pieces together where the branch ends.
func (p *Parser) Branch(inGroup bool, pieces ...int) int {
	if !p.Fine() {
		return None
	}
	// Where both a group's end and room for the pieces' node lack, it is the group's end that is told.
	if inGroup && p.Ends() {
		return p.Wrong(api.ErrParen)
	}
	return p.Put(p.Cat(pieces...))
}

// Paren reads a group, between whose beginning and end inner reads.
func (p *Parser) Paren(begin, end string, inner func() int) int {
	g := p.Open()
	if g == None {
		return p.Wrong(api.ErrGroups)
	}
	p.Take(begin)
	n := inner()
	if !p.Fine() {
		return None
	}
	p.Take(end)
	p.ended[g] = true
	return p.Put(p.Group(g, n))
}

// Times reads the interval that stands behind the node a.
func (p *Parser) Times(a int, begin, end string) int {
	lo, hi, n, ok := interval(p.text[p.at:], begin, end)
	if !ok {
		return p.Wrong(api.ErrRepeat)
	}
	p.at += n
	return p.Put(p.Rep(a, lo, hi))
}

// interval tells the numbers of the interval that b begins with, and how many bytes of b it takes.
func interval(b []byte, begin, end string) (lo, hi, n int, ok bool) {
	lo, n, e := digit.Num(b, len(begin), api.MaxRepeat)
	if e != api.OK {
		return 0, 0, 0, false
	}
	hi = lo
	switch {
	case begins(b[n:], ","+end):
		hi = api.Unbounded
		n++
	case begins(b[n:], ","):
		if hi, n, e = digit.Num(b, n+1, api.MaxRepeat); e != api.OK || hi < lo {
			return 0, 0, 0, false
		}
	}
	if !begins(b[n:], end) {
		return 0, 0, 0, false
	}
	return lo, hi, n + len(end), true
}

// One reads what stands for one byte, or for what a group took: a . , a bracket expression, a \ and what is behind it, or a byte that means itself.
func (p *Parser) One() int {
	switch c := p.text[p.at]; c {
	case '.':
		return p.set(1, class.Not(class.Of()))
	case '[':
		return p.bracket()
	case '\\':
		return p.escaped()
	default:
		return p.set(1, class.Of(c))
	}
}

// set puts a byte of s, for which so many bytes of the text stand.
func (p *Parser) set(n int, s api.Set) int {
	p.at += n
	return p.Put(p.Set(s))
}

func (p *Parser) bracket() int {
	s, next, e := brack.Parse(p.text, p.at+1)
	if e != api.OK {
		return p.Wrong(e)
	}
	return p.set(next-p.at, s)
}

func (p *Parser) escaped() int {
	if p.at+1 == len(p.text) {
		return p.Wrong(api.ErrEscape)
	}
	switch c := p.text[p.at+1]; {
	case c == 'n':
		return p.set(2, class.Of('\n'))
	case '1' <= c && c <= '9':
		return p.back(int(c - '0'))
	case isAlnum(c):
		return p.Wrong(api.ErrEscape)
	default:
		return p.set(2, class.Of(c))
	}
}

func isAlnum(c byte) bool {
	in, _ := digit.Is("alnum", c)
	return in
}

// back reads a \ and the number of a group.
func (p *Parser) back(g int) int {
	if !p.ended[g] {
		return p.Wrong(api.ErrBack)
	}
	p.at += 2
	return p.Put(p.Back(g))
}
