package parse_test

import (
	"bytes"
	"math"
	"slices"
	"strings"
	"testing"

	"palinode/api"
	"palinode/parse"
)

// rich is a script that has something of each kind, and is quiet.
const rich = "#n\n/a\\(b\\)/,\\,c,!{s/\\(x\\)y/[\\1]&/2gpw out\n};:top\n1,3y/ab/\\n\\\\/\n$ a\\\n one\\\n two\nw out2\nr in\n" +
	"btop\nt\nl 5\nq 7\n//s//z/\ni\\\nx\nw/dev/stdout\n{{=}};s/[0-9]*//w out2\n"

// P16.1 and P16.2: all that a program has, told by hand.
func TestProgram(t *testing.T) {
	s := mustParse(t, rich, false)
	p := s.Program()
	var names []string
	for i := range len(p.Names) {
		name, ok := s.Name(i)
		if !ok {
			t.Error(i)
		}
		names = append(names, name)
	}
	if !slices.Equal(p.Names, []string{"out", "out2"}) || !slices.Equal(names, p.Names) || !p.Quiet || !s.Quiet() || s.Extended() {
		t.Error(p.Names, names, p.Quiet)
	}
	var texts []string
	for _, b := range p.Texts {
		texts = append(texts, string(b))
	}
	if want := []string{`a\(b\)`, "c", `\(x\)y`, "[0-9]*"}; !slices.Equal(texts, want) || len(p.Res) != len(want) {
		t.Errorf("%q", texts)
	}
	letters := kinds(t, rich)
	if letters != "{s}:yawrbtlqsiw{{=}}s" || s.Len() != len(letters) {
		t.Errorf("%q: %d", letters, s.Len())
	}
	var files, to, at []int
	for _, c := range p.Cmds {
		files = append(files, c.File)
		to = append(to, c.To)
		at = append(at, c.At)
	}
	if want := []int{-1, 0, -1, -1, -1, -1, 1, -1, -1, -1, -1, -1, -1, -1, -2, -1, -1, -1, -1, -1, 1}; !slices.Equal(files, want) {
		t.Error(files)
	}
	if want := []int{2, 0, 0, 0, 0, 0, 0, 0, 3, 21, 0, 0, 0, 0, 0, 19, 18, 0, 0, 0, 0}; !slices.Equal(to, want) {
		t.Error(to)
	}
	for i, from := range at {
		if i > 0 && from <= at[i-1] {
			t.Error(at)
		}
	}
	checkRight(t, basic, right{"#n\n" + sign + rich[3:], api.Cmd{One: re(0), Two: re(1), Not: true, Kind: '{', To: 2}})
}

// P16.2: each number, those that are too small, and those that are too great.
func TestItems(t *testing.T) {
	for _, script := range []string{"", "p", rich, strings.Repeat("/a/w f\n", 100)} {
		s := mustParse(t, script, false)
		p := s.Program()
		if s.Len() != len(p.Cmds) {
			t.Errorf("%q: %d", script, s.Len())
		}
		for i := -3; i < 210; i++ {
			checkItems(t, s, p, i)
		}
		for _, i := range []int{math.MinInt, math.MinInt + 1, -1 << 32, -1 << 31, 1 << 31, 1 << 32, math.MaxInt - 1, math.MaxInt} {
			checkItems(t, s, p, i)
		}
	}
}

func checkItems(t *testing.T, s *parse.Script, p api.Program, i int) {
	t.Helper()
	var cmd api.Cmd
	if i >= 0 && i < len(p.Cmds) {
		cmd = p.Cmds[i]
	}
	if got, ok := s.Cmd(i); seen(got) != seen(cmd) || ok != (i >= 0 && i < len(p.Cmds)) {
		t.Errorf("Cmd(%d): %s, %v", i, seen(got), ok)
	}
	var re api.Re
	if i >= 0 && i < len(p.Res) {
		re = p.Res[i]
	}
	if got, ok := s.Re(i); seen(got) != seen(re) || ok != (i >= 0 && i < len(p.Res)) {
		t.Errorf("Re(%d): %s, %v", i, seen(got), ok)
	}
	name := ""
	if i >= 0 && i < len(p.Names) {
		name = p.Names[i]
	}
	if got, ok := s.Name(i); got != name || ok != (i >= 0 && i < len(p.Names)) {
		t.Errorf("Name(%d): %q, %v", i, got, ok)
	}
}

// P16.2: a nil script.
func TestNilScript(t *testing.T) {
	var s *parse.Script
	if got := seen(s.Program()); got != seen(api.Program{}) || s.Extended() || s.Quiet() || s.Len() != 0 {
		t.Error(got)
	}
	for _, i := range []int{math.MinInt, -2, -1, 0, 1, math.MaxInt} {
		checkItems(t, s, api.Program{}, i)
	}
}

// P16.2: are the regular expressions extended ones?
func TestExtended(t *testing.T) {
	for _, script := range []string{"", "p", "/a/p", "#n", `s/a|b//`} {
		for _, extended := range both {
			if got := mustParse(t, script, extended).Extended(); got != extended {
				t.Errorf("%q: %v", script, got)
			}
		}
	}
	basic, _ := mustParse(t, "/(a+)/p", false).Re(0)
	extended, _ := mustParse(t, "/(a+)/p", true).Re(0)
	if basic.Groups != 0 || extended.Groups != 1 || len(basic.Nodes) == len(extended.Nodes) {
		t.Error(seen(basic), seen(extended))
	}
}

// spoilBytes writes over all of b, and what lies behind its length.
func spoilBytes(b []byte) {
	b = b[:cap(b)]
	for i := range b {
		b[i] ^= 0x55
	}
}

func spoilCmd(c api.Cmd) {
	spoilBytes(c.Text)
	spoilBytes(c.From)
	spoilBytes(c.Into)
	for _, part := range c.Parts {
		spoilBytes(part.B)
	}
	for i := range c.Parts[:cap(c.Parts)] {
		c.Parts[:cap(c.Parts)][i] = api.Part{Kind: 1, Group: 7}
	}
}

func spoilRe(re api.Re) {
	for i := range re.Nodes[:cap(re.Nodes)] {
		re.Nodes[:cap(re.Nodes)][i] = api.Node{Kind: 77}
	}
}

// spoil writes over all of p.
func spoil(p api.Program) {
	for _, c := range p.Cmds {
		spoilCmd(c)
	}
	for _, re := range p.Res {
		spoilRe(re)
	}
	for _, b := range p.Texts {
		spoilBytes(b)
	}
	for i := range p.Cmds[:cap(p.Cmds)] {
		p.Cmds[:cap(p.Cmds)][i] = api.Cmd{Kind: 'k'}
	}
	for i := range p.Res[:cap(p.Res)] {
		p.Res[:cap(p.Res)][i] = api.Re{Groups: 9}
	}
	for i := range p.Texts[:cap(p.Texts)] {
		p.Texts[:cap(p.Texts)][i] = []byte("spoilt")
	}
	for i := range p.Names[:cap(p.Names)] {
		p.Names[:cap(p.Names)][i] = "spoilt"
	}
}

// P16.2, R4: what is answered may be written over, and so may what was handed in.
func TestMemory(t *testing.T) {
	for _, extended := range both {
		kept := []byte(rich + "p")
		script := append(slices.Clone(kept), "}}k"...)[:len(kept)]
		behind := script[len(script):cap(script)]
		before := slices.Clone(behind)
		s, _, e := parse.Parse(script, extended)
		if extended != (e == api.ErrBack) || !bytes.Equal(script, kept) || !bytes.Equal(behind, before) {
			t.Fatal(e, script)
		}
		if e != api.OK {
			continue
		}
		want := seen(s.Program())
		spoilBytes(script)
		if got := seen(s.Program()); got != want {
			t.Error("the script is shared:", got)
		}
		for range 2 {
			spoil(s.Program())
			for i := range s.Len() {
				c, _ := s.Cmd(i)
				spoilCmd(c)
				re, _ := s.Re(i)
				spoilRe(re)
			}
			if got := seen(s.Program()); got != want {
				t.Fatal("an answer is shared:", got)
			}
		}
	}
}

// R4: no two lists of one answer share memory.
func TestListsApart(t *testing.T) {
	s := mustParse(t, rich, false)
	p := s.Program()
	var lists []*[]byte
	for i := range p.Cmds {
		c := &p.Cmds[i]
		lists = append(lists, &c.Text, &c.From, &c.Into)
		for j := range c.Parts {
			lists = append(lists, &c.Parts[j].B)
		}
	}
	for i := range p.Texts {
		lists = append(lists, &p.Texts[i])
	}
	for _, l := range lists {
		was := slices.Clone(*l)
		all := (*l)[:cap(*l)]
		for i := range all {
			all[i]++
		}
		*l = was
		if got := seen(p); got != seen(s.Program()) {
			t.Fatal(got)
		}
	}
}

// R4: what lies behind the end of the bytes handed in plays no part.
func TestBehindTheEnd(t *testing.T) {
	for _, script := range []string{"", "#", "#n", "p", "1", "a", "a\\", "a\\\n", "a\\\nx", "a\\\nx\\", "s/a", "s/a/", "s/a/b", "s/a/b/", "y/a/b", "w", "w f", "q", "q 2", "ba", ":a", "{", "/", "\\", "1,", "/a"} {
		want := told(script, false)
		for _, behind := range []string{"/", "\n", "x", "9", "\\", "}", "n\n", ";p"} {
			b := []byte(script + behind)
			s, at, e := parse.Parse(b[:len(script)], false)
			got := faultSeen(s == nil, at, e)
			if e == api.OK {
				got = seen(s.Program()) + " at 0"
			}
			if got != want || string(b) != script+behind {
				t.Errorf("%q ahead of %q: %s, not %s", script, behind, got, want)
			}
		}
	}
}

// R6: the same script, the same answer; scripts have nothing to do with each other.
func TestAgain(t *testing.T) {
	one, two := told(rich, false), told("bx;by;:z", true)
	s := mustParse(t, rich, false)
	for range 20 {
		mustParse(t, ":top\n1!b top", true)
		if told(rich, false) != one || told("bx;by;:z", true) != two || seen(s.Program())+" at 0" != one {
			t.Fatal("another answer")
		}
	}
}

// changes are functions that each change one thing of the program of rich.
func changes() []func(p *api.Program) {
	all := []func(p *api.Program){
		func(p *api.Program) { p.Quiet = !p.Quiet },
		func(p *api.Program) { p.Names[0] += "x" },
		func(p *api.Program) { p.Names[1] = "Out2" },
		func(p *api.Program) { p.Names = p.Names[:1] },
		func(p *api.Program) { p.Names = p.Names[1:] },
		func(p *api.Program) { p.Names = append(p.Names, "") },
		func(p *api.Program) { slices.Reverse(p.Names) },
		func(p *api.Program) { p.Texts[0][0]++ },
		func(p *api.Program) { p.Texts[3] = append(p.Texts[3], 0) },
		func(p *api.Program) { p.Texts[1] = nil },
		func(p *api.Program) { p.Texts = p.Texts[:3] },
		func(p *api.Program) { p.Texts = append(p.Texts, nil) },
		func(p *api.Program) { slices.Reverse(p.Texts) },
		func(p *api.Program) { p.Res[0].Groups++ },
		func(p *api.Program) { p.Res[1].Groups = 9 },
		func(p *api.Program) { p.Res[0].Nodes[0].Set[1]++ },
		func(p *api.Program) { p.Res[0].Nodes[1].Kind++ },
		func(p *api.Program) { p.Res[0].Nodes[1].A-- },
		func(p *api.Program) { p.Res[0].Nodes[2].B++ },
		func(p *api.Program) { p.Res[3].Nodes[1].Lo++ },
		func(p *api.Program) { p.Res[3].Nodes[1].Hi = 4 },
		func(p *api.Program) { p.Res[2].Nodes[1].Group = 2 },
		func(p *api.Program) { p.Res[2].Nodes = p.Res[2].Nodes[:1] },
		func(p *api.Program) { p.Res = p.Res[:3] },
		func(p *api.Program) { p.Res = append(p.Res, api.Re{}) },
		func(p *api.Program) { slices.Reverse(p.Res) },
		func(p *api.Program) { p.Cmds = p.Cmds[:len(p.Cmds)-1] },
		func(p *api.Program) { p.Cmds = p.Cmds[1:] },
		func(p *api.Program) { p.Cmds = append(p.Cmds, api.Cmd{}) },
		func(p *api.Program) { p.Cmds = nil },
		func(p *api.Program) { slices.Reverse(p.Cmds) },
		func(p *api.Program) { *p = api.Program{Quiet: true} },
	}
	for i := range mustProgram().Cmds {
		for _, change := range cmdChanges() {
			all = append(all, func(p *api.Program) { change(&p.Cmds[i]) })
		}
	}
	return append(all,
		func(p *api.Program) { p.Cmds[1].Parts[0].B[0]++ },
		func(p *api.Program) { p.Cmds[1].Parts[0].Kind = api.PGroup },
		func(p *api.Program) { p.Cmds[1].Parts[1].Group = 0 },
		func(p *api.Program) { p.Cmds[1].Parts[0].Group = 1 },
		func(p *api.Program) { p.Cmds[1].Parts[1].B = []byte("x") },
		func(p *api.Program) { p.Cmds[1].Parts = p.Cmds[1].Parts[1:] },
		func(p *api.Program) { slices.Reverse(p.Cmds[1].Parts) },
		func(p *api.Program) { p.Cmds[4].From[1]++ },
		func(p *api.Program) { p.Cmds[4].Into[1]++ },
		func(p *api.Program) { p.Cmds[4].From, p.Cmds[4].Into = p.Cmds[4].Into, p.Cmds[4].From },
		func(p *api.Program) { p.Cmds[5].Text[0]++ },
		func(p *api.Program) { p.Cmds[5].Text = p.Cmds[5].Text[1:] },
	)
}

// cmdChanges are functions that each change one thing of any command.
func cmdChanges() []func(c *api.Cmd) {
	return []func(c *api.Cmd){
		func(c *api.Cmd) { c.One.Kind++ },
		func(c *api.Cmd) { c.One.N++ },
		func(c *api.Cmd) { c.One.Re-- },
		func(c *api.Cmd) { c.Two.Kind++ },
		func(c *api.Cmd) { c.Two.N-- },
		func(c *api.Cmd) { c.Two.Re++ },
		func(c *api.Cmd) { c.Not = !c.Not },
		func(c *api.Cmd) { c.Kind ^= 0x80 },
		func(c *api.Cmd) { c.To++ },
		func(c *api.Cmd) { c.To -= 1 << 32 },
		func(c *api.Cmd) { c.Text = append(c.Text, 'x') },
		func(c *api.Cmd) { c.Label += "x" },
		func(c *api.Cmd) { c.Re++ },
		func(c *api.Cmd) { c.Re-- },
		func(c *api.Cmd) { c.Parts = append(c.Parts, api.Part{}) },
		func(c *api.Cmd) { c.Parts = append([]api.Part{{Kind: 1}}, c.Parts...) },
		func(c *api.Cmd) { c.All = !c.All },
		func(c *api.Cmd) { c.Print = !c.Print },
		func(c *api.Cmd) { c.Nth++ },
		func(c *api.Cmd) { c.File-- },
		func(c *api.Cmd) { c.Code++ },
		func(c *api.Cmd) { c.From = append(c.From, 0) },
		func(c *api.Cmd) { c.Into = append(c.Into, 0) },
	}
}

func mustProgram() api.Program {
	s, _, _ := parse.Parse([]byte(rich), false)
	return s.Program()
}

// P16.2: two programs are the same, but for At, or they aren't.
func TestSame(t *testing.T) {
	p := mustProgram()
	if !parse.Same(p, mustProgram()) || !parse.Same(p, p) || !parse.Same(api.Program{}, api.Program{}) {
		t.Error("the same aren't")
	}
	for i, change := range changes() {
		other := mustProgram()
		change(&other)
		if parse.Same(p, other) || parse.Same(other, p) || !parse.Same(other, other) {
			t.Errorf("the change %d", i)
		}
	}
	for i := range p.Cmds {
		for _, at := range []int{math.MinInt, -1, 0, 5, math.MaxInt} {
			other := mustProgram()
			other.Cmds[i].At = at
			if !parse.Same(p, other) || !parse.Same(other, p) {
				t.Errorf("At %d of the command %d", at, i)
			}
		}
	}
	moved, _, e := parse.Parse([]byte(rich[:3]+" ;\n;"+rich[3:]+"#end"), false)
	if e != api.OK || !parse.Same(moved.Program(), p) {
		t.Error(e)
	}
}

// P16.2, R3: lists that are nil and such as have no elements are the same.
func TestSameOfEmpty(t *testing.T) {
	nothing := api.Program{Cmds: []api.Cmd{}, Res: []api.Re{}, Texts: [][]byte{}, Names: []string{}}
	if !parse.Same(nothing, api.Program{}) || !parse.Same(api.Program{}, nothing) {
		t.Error("lists")
	}
	one := api.Program{Cmds: []api.Cmd{{}}, Res: []api.Re{{}}, Texts: [][]byte{nil}}
	other := api.Program{
		Cmds:  []api.Cmd{{Text: []byte{}, Parts: []api.Part{}, From: []byte{}, Into: []byte{}}},
		Res:   []api.Re{{Nodes: []api.Node{}}},
		Texts: [][]byte{{}},
	}
	if !parse.Same(one, other) || !parse.Same(other, one) || parse.Same(one, nothing) || parse.Same(api.Program{}, other) {
		t.Error("lists in lists")
	}
	one.Cmds[0].Parts = []api.Part{{B: nil}}
	other.Cmds[0].Parts = []api.Part{{B: []byte{}}}
	if !parse.Same(one, other) {
		t.Error("parts")
	}
}

// P16.2, R1 and R4: Same takes programs of any parts, and changes none; what lies behind a list's length plays no part.
func TestSameOfAny(t *testing.T) {
	p := mustProgram()
	was := seen(p)
	long := p
	long.Cmds = append(slices.Clone(p.Cmds), api.Cmd{Kind: 'k'})[:len(p.Cmds)]
	long.Names = append(slices.Clone(p.Names), "k")[:len(p.Names)]
	long.Texts = append(slices.Clone(p.Texts), nil)[:len(p.Texts)]
	long.Res = append(slices.Clone(p.Res), api.Re{Groups: -4})[:len(p.Res)]
	if !parse.Same(p, long) || !parse.Same(long, p) || seen(p) != was {
		t.Error("what lies behind")
	}
	odd := api.Program{
		Cmds:  []api.Cmd{{Kind: 200, One: api.Addr{Kind: -5, N: math.MinInt, Re: 99}, To: -1, File: 77, Nth: math.MaxInt, Label: "\x00", Parts: []api.Part{{Kind: 9, Group: -1}}}},
		Res:   []api.Re{{Groups: math.MinInt, Nodes: []api.Node{{Kind: 99, A: -1, B: math.MaxInt}}}, {}},
		Texts: [][]byte{nil, nil, nil, []byte("[")},
		Names: []string{"", "a b", ""},
	}
	if !parse.Same(odd, odd) || parse.Same(odd, p) || parse.Same(p, odd) || parse.Same(odd, api.Program{}) {
		t.Error("any parts")
	}
}

// joined is the program of two scripts, the second behind so many bytes.
func joined(one, two api.Program, offset int) api.Program {
	cmds, res := len(one.Cmds), len(one.Res)
	place := map[int]int{api.NoFile: api.NoFile, api.StdOut: api.StdOut}
	for i, name := range two.Names {
		if !slices.Contains(one.Names, name) {
			one.Names = append(one.Names, name)
		}
		place[i] = slices.Index(one.Names, name)
	}
	moved := func(a api.Addr) api.Addr {
		if a.Kind == api.ARe && a.Re >= 0 {
			a.Re += res
		}
		return a
	}
	for i, c := range one.Cmds {
		if (c.Kind == 'b' || c.Kind == 't') && c.Label == "" {
			one.Cmds[i].To = cmds + len(two.Cmds)
		}
	}
	for _, c := range two.Cmds {
		c.At += offset
		c.One, c.Two, c.File = moved(c.One), moved(c.Two), place[c.File]
		if c.Kind == 's' && c.Re >= 0 {
			c.Re += res
		}
		if c.Kind == '{' || c.Kind == 'b' || c.Kind == 't' {
			c.To += cmds
		}
		one.Cmds = append(one.Cmds, c)
	}
	one.Res = append(one.Res, two.Res...)
	one.Texts = append(one.Texts, two.Texts...)
	return one
}

// P16.1: chance-like scripts are what they were written for.
func TestMade(t *testing.T) {
	x := numbers(16)
	for i := range 6000 {
		extended := i%2 == 1
		script, want := made(&x, i%25, extended, "")
		if got := told(script, extended); got != seen(want)+" at 0" {
			t.Fatalf("%q, %v:\n%s, not\n%s", script, extended, got, seen(want))
		}
		if got := meant(script, extended); got != seen(want)+" at 0" {
			t.Fatalf("the model, of %q, %v:\n%s, not\n%s", script, extended, got, seen(want))
		}
	}
}

// P16.3: blanks, newlines and ; ahead of a script change nothing but places, unless it is quiet.
func TestAheadOfAScript(t *testing.T) {
	x := numbers(163)
	for i := range 1500 {
		script, want := made(&x, i%20, false, "")
		ahead := ""
		for range 1 + x.Intn(4) {
			ahead += x.one(" ", "\t", "\n", ";", "\n;\n")
		}
		want.Quiet = false
		for j := range want.Cmds {
			want.Cmds[j].At += len(ahead)
		}
		if got := told(ahead+script, false); got != seen(want)+" at 0" {
			t.Fatalf("%q ahead of %q: %s, not %s", ahead, script, got, seen(want))
		}
	}
	for _, x := range []wrong{{"p »p", api.ErrExtra}, {"{»", api.ErrBlock}, {"»bx", api.ErrLabel}, {"1,»", api.ErrAddr}} {
		for _, ahead := range []string{" ", "\t\n", ";;", "\n"} {
			checkWrong(t, both, wrong{ahead + x.script, x.e})
		}
	}
}

// P16.3: of two scripts, one behind the other, the commands are those of both.
func TestTwoScripts(t *testing.T) {
	x := numbers(1616)
	for i := range 3000 {
		extended := i%2 == 1
		one, first := made(&x, i%12, extended, "m")
		two, second := made(&x, x.Intn(12), extended, "n")
		want := joined(first, second, len(one)+1)
		if got := told(one+"\n"+two, extended); got != seen(want)+" at 0" {
			t.Fatalf("%q, %q, %v:\n%s, not\n%s", one, two, extended, got, seen(want))
		}
	}
	checkWrong(t, both,
		wrong{":a\n:»a", api.ErrThere},
		wrong{writes(16) + "\nw »x", api.ErrFull},
		wrong{strings.Repeat("p\n", 150) + strings.Repeat("p\n", 50) + "»p", api.ErrFull},
	)
	checkRight(t, both,
		right{":a\nb\n»ba", api.Cmd{Kind: 'b', Label: "a"}},
		right{"»ba;:a\nb\np", api.Cmd{Kind: 'b', Label: "a", To: 1}},
		right{"»b\np;p", api.Cmd{Kind: 'b', To: 3}},
	)
	if kinds(t, "#n\np\n#n\nx") != "px" || !mustParse(t, "#n\np\n#n\nx", false).Quiet() || mustParse(t, "p\n#n\nx", false).Quiet() {
		t.Error("a # n behind a script")
	}
}

// P16.1: all short scripts of some sets of words, against the model.
func TestShortScripts(t *testing.T) {
	for _, x := range []struct {
		most  int
		words []string
	}{
		{5, []string{"1", ",", "$", "!", " ", "p", ";", "q"}},
		{6, []string{"{", "}", "p", ";", " ", "#"}},
		{5, []string{"/", "a", `\`, ",", "\n", "p", "s"}},
		{6, []string{"#", "n", "\n", ";", "\\"}},
		{5, []string{":", "b", "t", "x", ";", " ", "\n", "_"}},
		{5, []string{"a", `\`, "\n", " ", "x", ";", "p"}},
		{5, []string{"l", "q", "2", "5", " ", ";", "6"}},
		{5, []string{"w", "r", "f", " ", "\n", "\x7f", "/dev/stdout"}},
		{5, []string{"s/a/b/", "g", "p", "1", "0", "w", "512", "3"}},
		{6, []string{"s", "/", `\`, "1", "&", "["}},
		{6, []string{"y", "/", "a", "b", `\`, "n"}},
		{5, []string{"y,", ",", `\`, "a", "/", "\n", ";"}},
		{4, []string{"{", "}", "p", "1", "!", ",", ":x", "bx", "\n", ";", "#", "a\\\n"}},
	} {
		for _, script := range shortTexts(x.most, x.words...) {
			sameAsModel(t, script)
		}
	}
}

// P16.1, P1: chance-like scripts that are changed here and there, and rows of words and bytes, against the model.
func TestChangedScripts(t *testing.T) {
	x := numbers(61)
	for i := range 20000 {
		script, _ := made(&x, 1+x.Intn(8), i%2 == 1, "")
		for range 1 + x.Intn(3) {
			at := x.Intn(len(script) + 1)
			behind := min(len(script), at+x.Intn(3))
			script = script[:at] + x.one("", "", " ", "\n", ";", "}", "{", "/", `\`, "1", ",", "!", "x", "#", "\x00", "99999999999") + script[behind:]
		}
		sameAsModel(t, script)
	}
	words := []string{"/", "/a/", "1", "2147483648", "$", ",", "!", " ", "\t", "\n", ";", "{", "}", "#", "p", "q", "=", "a", "a\\\n", "r f\n", "w f\n", "w",
		"s", "s/a/b/", "s/\\(a\\)/\\1/", "g", "y/ab/cd/", "y", ":x", ":", "bx", "t", "l", "255", "\\", "\\,", "[", "n", "x", "\xff"}
	for range 40000 {
		script := ""
		for range x.Intn(12) {
			script += x.one(words...)
		}
		sameAsModel(t, script)
	}
	for range 20000 {
		b := make([]byte, x.Intn(8))
		for i := range b {
			b[i] = byte(x.Intn(256))
		}
		sameAsModel(t, string(b))
	}
}

// P1: long scripts of any one word.
func TestLongScripts(t *testing.T) {
	for _, word := range []string{"{", "}", "{}", "p;", "/", "//p;", "1,", "!", "a\\\n", "w f\n", "s///\n", "y///;", "bx;", ":x\n", "\\", "\\,", "#", "\\\n", "s,a,b,1", "b;t;", "x{}", "[", "s/[/]/", "l1 ", "99"} {
		for _, n := range []int{100, 199, 200, 201, 1000, 4095, 4096} {
			sameAsModel(t, strings.Repeat(word, n)[:min(n*len(word), api.MaxScript)])
		}
	}
}
