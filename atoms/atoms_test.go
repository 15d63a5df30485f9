package atoms_test

import (
	"testing"

	"palinode/api"
	"palinode/atoms"
	"palinode/tree"
)

// set is a node of one byte.
func set(c byte) api.Node {
	n := api.Node{Kind: api.NSet}
	n.Set[c/64] = 1 << (c % 64)
	return n
}

// told asks that p tells these nodes.
func told(t *testing.T, p *atoms.Parser, root, groups int, nodes ...api.Node) {
	t.Helper()
	re, at, e := p.Told(root)
	if !tree.Same(re, api.Re{Nodes: nodes, Groups: groups}) || at != 0 || e != api.OK {
		t.Errorf("%v at %d, %v", re, at, e)
	}
}

// wrong asks that p tells e at the place at, and nothing else.
func wrong(t *testing.T, p *atoms.Parser, root, at int, e api.Errno) {
	t.Helper()
	re, place, got := p.Told(root)
	if root != atoms.None || p.Fine() || len(re.Nodes) != 0 || re.Groups != 0 || place != at || got != e {
		t.Errorf("%d: %v at %d, %v; want %d, %v", root, re, place, got, at, e)
	}
}

// A text is taken piece by piece, and only what stands there is.
func TestTake(t *testing.T) {
	p := atoms.New([]byte("ab"))
	if p.Ends() || p.Comes("b") || p.Take("b") || !p.Comes("a") || !p.Comes("ab") || p.Comes("abc") || !p.Take("a") || !p.Take("b") {
		t.Error(p)
	}
	if !p.Ends() || p.Comes("b") || p.Take("b") || !p.Comes("") || !p.Fine() {
		t.Error(p)
	}
	nothing := atoms.New(nil)
	if !nothing.Ends() || nothing.Comes("a") {
		t.Error(nothing)
	}
}

// What stands for one byte, or for what a group took, is a node.
func TestOne(t *testing.T) {
	for b, n := range map[string]api.Node{"a": set('a'), "*": set('*'), `\n`: set('\n'), `\(`: set('('), "[b]": set('b'), `\]`: set(']')} {
		p := atoms.New([]byte(b))
		root := p.One()
		if !p.Ends() {
			t.Errorf("%s: there is more", b)
		}
		told(t, &p, root, 0, n)
	}
	for b, e := range map[string]api.Errno{`\`: api.ErrEscape, `\q`: api.ErrEscape, `\0`: api.ErrEscape, `\1`: api.ErrBack, "[b-a]": api.ErrRange, "[": api.ErrBracket} {
		p := atoms.New([]byte("x" + b))
		p.Take("x")
		wrong(t, &p, p.One(), 1, e)
	}
}

// A group ends by the text that is told, and only behind that it is there.
func TestParen(t *testing.T) {
	p := atoms.New([]byte(`<a>\1`))
	g := p.Paren("<", ">", func() int { return p.Branch(true, p.One()) })
	told(t, &p, p.Branch(false, g, p.One()), 1, set('a'), api.Node{Kind: api.NGroup, Group: 1}, api.Node{Kind: api.NBack, Group: 1}, api.Node{Kind: api.NCat, A: 1, B: 2})
	p = atoms.New([]byte(`<\1>`))
	wrong(t, &p, p.Paren("<", ">", p.One), 1, api.ErrBack)
	p = atoms.New([]byte("<a"))
	wrong(t, &p, p.Paren("<", ">", func() int { return p.Branch(true, p.One()) }), 2, api.ErrParen)
	p = atoms.New([]byte("<<<<<<<<<<"))
	var inner func() int
	inner = func() int { return p.Paren("<", ">", inner) }
	wrong(t, &p, inner(), 9, api.ErrGroups)
}

// An interval stands between the texts that are told.
func TestTimes(t *testing.T) {
	for b, n := range map[string]api.Node{"a<2>": {Kind: api.NRep, Lo: 2, Hi: 2}, "a<2,>": {Kind: api.NRep, Lo: 2, Hi: api.Unbounded}, "a<2,255>": {Kind: api.NRep, Lo: 2, Hi: 255}} {
		p := atoms.New([]byte(b))
		told(t, &p, p.Times(p.One(), "<", ">"), 0, set('a'), n)
		if !p.Ends() {
			t.Errorf("%s: there is more", b)
		}
	}
	for _, b := range []string{"a<", "a<>", "a<2", "a<2,", "a<2}", "a<,2>", "a<3,2>", "a<256>", "a<2,256>", "a<2,,3>"} {
		p := atoms.New([]byte(b))
		wrong(t, &p, p.Times(p.One(), "<", ">"), 1, api.ErrRepeat)
	}
}

// Where a node is one too many, it is told at the place to which the text was read.
func TestRoom(t *testing.T) {
	p := atoms.New([]byte("ab"))
	n := p.One()
	for range 999 {
		n = p.Put(p.Rep(n, 1, 1))
	}
	if !p.Fine() || n != 999 {
		t.Error(n)
	}
	wrong(t, &p, p.One(), 2, api.ErrLong)
}
