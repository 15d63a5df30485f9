package parse_test

import (
	"slices"
	"strconv"
	"strings"
	"testing"

	"palinode/api"
	"palinode/swap"
)

const (
	labelBytes = "ABCDEFGHIJKLMNOPQRSTUVWXYZabcdefghijklmnopqrstuvwxyz0123456789_"

	word16 = "abcdefgh_1234567"
	word17 = word16 + "8"
)

// P16.1: labels of all lengths, and bytes that are none of a label.
func TestLabels(t *testing.T) {
	checkRight(t, both,
		right{"»:a", api.Cmd{Kind: ':', Label: "a"}},
		right{"»: \t a", api.Cmd{Kind: ':', Label: "a"}},
		right{"»:a \t", api.Cmd{Kind: ':', Label: "a"}},
		right{"»:_;p", api.Cmd{Kind: ':', Label: "_"}},
		right{"{»:0}", api.Cmd{Kind: ':', Label: "0"}},
		right{"»:Z#z", api.Cmd{Kind: ':', Label: "Z"}},
		right{"»:" + word16, api.Cmd{Kind: ':', Label: word16}},
		right{"»: " + word16 + "\n", api.Cmd{Kind: ':', Label: word16}},
		right{":a;»:A", api.Cmd{Kind: ':', Label: "A"}},
		right{":a;»:aa", api.Cmd{Kind: ':', Label: "aa"}},
		right{":" + word16 + ";»:" + word16[1:], api.Cmd{Kind: ':', Label: word16[1:]}},
		right{"»b", api.Cmd{Kind: 'b', To: 1}},
		right{"»t \t", api.Cmd{Kind: 't', To: 1}},
		right{"»b" + word16 + "\n:" + word16, api.Cmd{Kind: 'b', Label: word16, To: 1}},
		right{"»t\t" + word16 + "\n:" + word16, api.Cmd{Kind: 't', Label: word16, To: 1}},
	)
	checkWrong(t, both,
		wrong{":»", api.ErrLabel},
		wrong{":  »", api.ErrLabel},
		wrong{":»;", api.ErrLabel},
		wrong{": »\na", api.ErrLabel},
		wrong{":»#a", api.ErrLabel},
		wrong{"{:»}", api.ErrLabel},
		wrong{":»-a", api.ErrLabel},
		wrong{":»\xe9", api.ErrLabel},
		wrong{":»" + word17, api.ErrLabel},
		wrong{": \t»" + word17, api.ErrLabel},
		wrong{":»" + word17 + " x", api.ErrLabel},
		wrong{":»" + strings.Repeat("a", 4000), api.ErrLabel},
		wrong{"b»" + word17, api.ErrLabel},
		wrong{"b  »" + word17 + "-", api.ErrLabel},
		wrong{"1!t »" + word17, api.ErrLabel},
		wrong{":" + word16 + "»-", api.ErrExtra},
		wrong{":" + word16 + " »8", api.ErrExtra},
		wrong{":a »b", api.ErrExtra},
		wrong{":a»:", api.ErrExtra},
		wrong{":a»,", api.ErrExtra},
		wrong{":a»{", api.ErrExtra},
		wrong{"b»-", api.ErrExtra},
		wrong{"b »-a", api.ErrExtra},
		wrong{"ba »a", api.ErrExtra},
		wrong{"t»\x00", api.ErrExtra},
		wrong{"ta»\\", api.ErrExtra},
	)
	for c := range 256 {
		b := string([]byte{byte(c)})
		switch {
		case strings.Contains(labelBytes, b):
			checkRight(t, both, right{"»:" + b + "a", api.Cmd{Kind: ':', Label: b + "a"}}, right{"»:a" + b, api.Cmd{Kind: ':', Label: "a" + b}},
				right{"»t" + b + ";:" + b, api.Cmd{Kind: 't', Label: b, To: 1}})
		case !strings.Contains(" \t", b):
			checkWrong(t, both, wrong{":»" + b + "a", api.ErrLabel})
			fallthrough
		default:
			if !strings.Contains(" \t\n;}#", b) {
				checkWrong(t, both, wrong{"b»" + b, api.ErrExtra}, wrong{":a»" + b, api.ErrExtra})
			}
		}
	}
}

// P16.1: a label may be that of one : alone.
func TestLabelTwice(t *testing.T) {
	checkWrong(t, both,
		wrong{":a\n:»a", api.ErrThere},
		wrong{":a;: \t»a", api.ErrThere},
		wrong{":a;:»a;:a", api.ErrThere},
		wrong{":a;:b;{: »b}", api.ErrThere},
		wrong{":a;:»a x", api.ErrThere},
		wrong{":a;:»a-", api.ErrThere},
		wrong{":a;bx;:»a", api.ErrThere},
		wrong{"{:a;:»a", api.ErrThere},
		wrong{":" + word16 + ";:»" + word16, api.ErrThere},
		wrong{":" + word16 + ";:»" + word17, api.ErrLabel},
		wrong{":a;1»:a", api.ErrAddr},
		wrong{":a »:a", api.ErrExtra},
	)
}

// P16.1: jumps to one ahead, to one behind, to none, and to one that isn't there.
func TestJumps(t *testing.T) {
	for _, letter := range []string{"b", "t"} {
		kind := letter[0]
		checkRight(t, both,
			right{"»" + letter + ";p;p", api.Cmd{Kind: kind, To: 3}},
			right{"p;p;»" + letter, api.Cmd{Kind: kind, To: 3}},
			right{"{»" + letter + "}", api.Cmd{Kind: kind, To: 3}},
			right{"»" + letter + " #x\n:x", api.Cmd{Kind: kind, To: 2}},
			right{"»" + letter + "\nx", api.Cmd{Kind: kind, To: 2}},
			right{"»" + letter + strings.Repeat(";p", 199), api.Cmd{Kind: kind, To: 200}},
			right{"»" + letter + " x;p;:x", api.Cmd{Kind: kind, Label: "x", To: 2}},
			right{":x;p;»1,2!" + letter + "x", api.Cmd{One: line(1), Two: line(2), Not: true, Kind: kind, Label: "x", To: 0}},
			right{"»" + letter + "x;{:x;}", api.Cmd{Kind: kind, Label: "x", To: 2}},
			right{"p;{:y;:x;};»" + letter + "\tx", api.Cmd{Kind: kind, Label: "x", To: 3}},
			right{":x;{»" + letter + "x}", api.Cmd{Kind: kind, Label: "x", To: 0}},
			right{":a;:b;:c;»" + letter + "b;:d", api.Cmd{Kind: kind, Label: "b", To: 1}},
			right{":a;:b;:c;»" + letter + "d;:d", api.Cmd{Kind: kind, Label: "d", To: 4}},
			right{"p;»" + letter + "z" + strings.Repeat(";p", 197) + ";:z", api.Cmd{Kind: kind, Label: "z", To: 199}},
		)
		checkWrong(t, both,
			wrong{"»" + letter + "x", api.ErrLabel},
			wrong{"p;»" + letter + " x", api.ErrLabel},
			wrong{"p; »1!" + letter + " x;:y", api.ErrLabel},
			wrong{"»" + letter + " x;by", api.ErrLabel},
			wrong{":x;bx;t;»" + letter + " X", api.ErrLabel},
			wrong{":x;»" + letter + " xx;ty", api.ErrLabel},
			wrong{":xx;»" + letter + " x", api.ErrLabel},
			wrong{"b;»/a/,//" + letter + "k;tz", api.ErrLabel},
			wrong{"»" + letter + "x;#:x", api.ErrLabel},
			wrong{"»" + letter + "x;a\\\n:x", api.ErrLabel},
			wrong{"{" + letter + "x;»", api.ErrBlock},
			wrong{letter + "x;»}", api.ErrBlock},
			wrong{letter + "x;»k", api.ErrCommand},
		)
	}
}

// P16.1: the texts of a, c and i.
func TestTexts(t *testing.T) {
	for _, x := range []struct{ script, text string }{
		{"\\\nx", "x\n"},
		{"\\\nx\n", "x\n"},
		{" \\\nx", "x\n"},
		{" \t\\ \t\nx\n", "x\n"},
		{"\\\n", "\n"},
		{"\\\n\n", "\n"},
		{"\\\n\\\n", "\n\n"},
		{"\\\n\\\n\\\nx", "\n\nx\n"},
		{"\\\n  x ", "  x \n"},
		{"\\\n\\  x", "  x\n"},
		{"\\\nx\\y\\\\z\\n", "xy\\zn\n"},
		{"\\\none\\\ntwo\n", "one\ntwo\n"},
		{"\\\none\\\\\n", "one\\\n"},
		{"\\\n;p;}#{\n", ";p;}#{\n"},
		{"\\\n\x00\xff\\\x00\r", "\x00\xff\x00\r\n"},
		{"\\\n" + strings.Repeat("long", 1000), strings.Repeat("long", 1000) + "\n"},
	} {
		for _, letter := range []byte("aci") {
			checkRight(t, both, right{"»" + string([]byte{letter}) + x.script, api.Cmd{Kind: letter, Text: []byte(x.text)}})
		}
	}
	checkRight(t, both,
		right{"a\\\nx\n»p", api.Cmd{Kind: 'p'}},
		right{"a\\\nx\\\ny\n»p", api.Cmd{Kind: 'p'}},
		right{"a\\\n\n\n»p", api.Cmd{Kind: 'p'}},
		right{"{i\\\n}\n»}", api.Cmd{Kind: '}'}},
		right{"c\\\n\\\\\n»p", api.Cmd{Kind: 'p'}},
	)
	for _, letter := range []string{"a", "c", "i"} {
		checkWrong(t, both,
			wrong{letter + sign, api.ErrExtra},
			wrong{letter + "  »", api.ErrExtra},
			wrong{letter + "»\nx", api.ErrExtra},
			wrong{letter + "»;p", api.ErrExtra},
			wrong{letter + "»}", api.ErrExtra},
			wrong{letter + "»x", api.ErrExtra},
			wrong{letter + " »x\\\ny", api.ErrExtra},
			wrong{letter + "\\»", api.ErrExtra},
			wrong{letter + "\\ »", api.ErrExtra},
			wrong{letter + "\\»x", api.ErrExtra},
			wrong{letter + "\\ \t»x\ny", api.ErrExtra},
			wrong{letter + "\\»;", api.ErrExtra},
			wrong{letter + "\\»\\\nx", api.ErrExtra},
			wrong{letter + "\\»\r\nx", api.ErrExtra},
			wrong{letter + "\\\n»\\", api.ErrEscape},
			wrong{letter + "\\\n»x\\", api.ErrEscape},
			wrong{letter + " \\ \n»  x\\\\\\", api.ErrEscape},
			wrong{letter + "\\\n»x\\\ny\\", api.ErrEscape},
			wrong{"{" + letter + "\\\n»}\\", api.ErrEscape},
			wrong{"bx;1!" + letter + "\\\n»\\\n\\", api.ErrEscape},
			wrong{letter + "\\\nx\n»}", api.ErrBlock},
			wrong{letter + "\\\nx\\\ny\n»k", api.ErrCommand},
		)
	}
}

// P16.1: the numbers of l and q.
func TestCodes(t *testing.T) {
	for _, x := range []struct {
		letter byte
		none   int
	}{{'l', 70}, {'q', 0}} {
		l := string([]byte{x.letter})
		for _, behind := range []string{"", " \t", ";", " ;p", "\n", "#p", "\t# ", "\np"} {
			checkRight(t, both, right{"»" + l + behind, api.Cmd{Kind: x.letter, Code: x.none}})
			for _, n := range []int{0, 1, 9, 10, 70, 254, 255} {
				for _, ahead := range []string{"", " ", "\t ", "0", " 000"} {
					checkRight(t, both, right{"»" + l + ahead + strconv.Itoa(n) + behind, api.Cmd{Kind: x.letter, Code: n}})
				}
			}
		}
		checkRight(t, both, right{"{»" + l + "}", api.Cmd{Kind: x.letter, Code: x.none}}, right{"{»" + l + "7}", api.Cmd{Kind: x.letter, Code: 7}})
		checkWrong(t, both,
			wrong{l + "»256", api.ErrRange},
			wrong{l + " »256", api.ErrRange},
			wrong{l + "\t»0256;", api.ErrRange},
			wrong{l + "»256x", api.ErrRange},
			wrong{l + "»300", api.ErrRange},
			wrong{l + "»18446744073709551617", api.ErrRange},
			wrong{l + " »" + strings.Repeat("9", 4000), api.ErrRange},
			wrong{l + "5»x", api.ErrExtra},
			wrong{l + " 5 »6", api.ErrExtra},
			wrong{l + "»-1", api.ErrExtra},
			wrong{l + " »+1", api.ErrExtra},
			wrong{l + "»p", api.ErrExtra},
			wrong{l + " »{", api.ErrExtra},
			wrong{l + "5»,", api.ErrExtra},
		)
	}
}

// P16.1: the names of r and w.
func TestNames(t *testing.T) {
	for n := 1; n <= api.MaxName; n++ {
		name := strings.Repeat("n", n)
		checkRight(t, both, right{"»r" + name, api.Cmd{Kind: 'r', Text: []byte(name)}}, right{"»w\t" + name + "\np", api.Cmd{Kind: 'w', File: 1}})
		if got := mustParse(t, "w "+name, false).Program().Names; len(got) != 1 || got[0] != name {
			t.Errorf("%q: %q", name, got)
		}
	}
	checkRight(t, both,
		right{"»rf", api.Cmd{Kind: 'r', Text: []byte("f")}},
		right{"»r \t f\n", api.Cmd{Kind: 'r', Text: []byte("f")}},
		right{"»r f;p", api.Cmd{Kind: 'r', Text: []byte("f;p")}},
		right{"{»r f}\n}", api.Cmd{Kind: 'r', Text: []byte("f}")}},
		right{"»r#\np", api.Cmd{Kind: 'r', Text: []byte("#")}},
		right{`»r a\` + "\np", api.Cmd{Kind: 'r', Text: []byte(`a\`)}},
		right{"»r /dev/stdout", api.Cmd{Kind: 'r', Text: []byte("/dev/stdout")}},
		right{"r f\n»p", api.Cmd{Kind: 'p'}},
		right{"w f\n»p", api.Cmd{Kind: 'p'}},
		right{"»w /dev/stdout", api.Cmd{Kind: 'w', File: api.StdOut}},
		right{"w f\n»w /dev/stdout\nw g", api.Cmd{Kind: 'w', File: api.StdOut}},
		right{"w f\n»w /dev/stdout/", api.Cmd{Kind: 'w', File: 2}},
		right{"w f\n»w /dev/stdou", api.Cmd{Kind: 'w', File: 2}},
		right{"w f\n»w g\nw f", api.Cmd{Kind: 'w', File: 2}},
		right{"w f\nw g\n»w f", api.Cmd{Kind: 'w', File: 1}},
		right{"w f\nw F\n»w g", api.Cmd{Kind: 'w', File: 3}},
		right{"r f\nr g\n»w g", api.Cmd{Kind: 'w', File: 1}},
		right{"»w f;wg", api.Cmd{Kind: 'w', File: 1}},
	)
	for _, letter := range []string{"r", "w"} {
		checkWrong(t, both,
			wrong{letter + sign, api.ErrName},
			wrong{letter + " \t»", api.ErrName},
			wrong{letter + "»\nf", api.ErrName},
			wrong{letter + " »\nf", api.ErrName},
			wrong{letter + " »a b", api.ErrName},
			wrong{letter + "»a ", api.ErrName},
			wrong{letter + " »a\t", api.ErrName},
			wrong{letter + "»a #", api.ErrName},
			wrong{letter + "»a ;p", api.ErrName},
			wrong{letter + "»a\r\np", api.ErrName},
			wrong{letter + " »\x7f", api.ErrName},
			wrong{letter + " »é", api.ErrName},
			wrong{letter + " »/dev/stdout ", api.ErrName},
			wrong{letter + "»" + strings.Repeat("n", 65), api.ErrName},
			wrong{letter + "\t»" + strings.Repeat("n", 4000), api.ErrName},
			wrong{letter + " f\n»}", api.ErrBlock},
		)
	}
	for c := range 256 {
		b := string([]byte{byte(c)})
		if c > 32 && c < 127 {
			checkRight(t, both, right{"»r " + b, api.Cmd{Kind: 'r', Text: []byte(b)}}, right{"»wx" + b, api.Cmd{Kind: 'w', File: 1}})
		} else if c != '\n' {
			checkWrong(t, both, wrong{"r »x" + b, api.ErrName}, wrong{"w »x" + b + "y", api.ErrName})
		}
	}
}

// writes is a script of so many names that are written, by w and by s.
func writes(names int) string {
	script := ""
	for i := range names {
		script += []string{"w ", "s/a/b/w"}[i%2] + "name" + strconv.Itoa(i) + "\n"
	}
	return script
}

// P16.1: 16 names that are written, and one more.
func TestWrites(t *testing.T) {
	all := writes(api.MaxFiles)
	var want []string
	for i := range api.MaxFiles {
		want = append(want, "name"+strconv.Itoa(i))
	}
	for _, behind := range []string{"", "p", "w name7\n", "w/dev/stdout\ns/a/b/w name0", "s/a/b/w /dev/stdout", "r name17", all} {
		p := mustParse(t, all+behind, false).Program()
		if !slices.Equal(p.Names, want) {
			t.Errorf("%q: %q", behind, p.Names)
		}
		for i, c := range p.Cmds[:api.MaxFiles] {
			if c.File != i {
				t.Errorf("the command %d writes to %d", i, c.File)
			}
		}
	}
	checkRight(t, both,
		right{all + "»w name9", api.Cmd{Kind: 'w', File: 10}},
		right{all + "»w name15", api.Cmd{Kind: 'w', File: 16}},
		right{all + "»w /dev/stdout", api.Cmd{Kind: 'w', File: api.StdOut}},
		right{writes(15) + "»w name17", api.Cmd{Kind: 'w', File: 16}},
		right{all + "»r name17", api.Cmd{Kind: 'r', Text: []byte("name17")}},
	)
	checkWrong(t, both,
		wrong{all + "w »name16", api.ErrFull},
		wrong{all + "w\t »x\nk", api.ErrFull},
		wrong{all + "1!s//b/gw »x", api.ErrFull},
		wrong{all + "s/a/b/w»/dev/stdout2", api.ErrFull},
		wrong{all + "w »a b", api.ErrName},
		wrong{all + "w »", api.ErrName},
		wrong{all + "w name3\nw »name", api.ErrFull},
		wrong{writes(15) + "w x\nw x\nw »y", api.ErrFull},
	)
}

// P16.1: each flag of s, alone, in all orders, and twice.
func TestFlags(t *testing.T) {
	b := parts(text("b"))
	for _, x := range []struct {
		flags string
		want  api.Cmd
	}{
		{"", api.Cmd{Nth: 1}},
		{"g", api.Cmd{Nth: 1, All: true}},
		{"p", api.Cmd{Nth: 1, Print: true}},
		{"1", api.Cmd{Nth: 1}},
		{"2", api.Cmd{Nth: 2}},
		{"0010", api.Cmd{Nth: 10}},
		{"511", api.Cmd{Nth: 511}},
		{"512", api.Cmd{Nth: 512}},
		{"gp", api.Cmd{Nth: 1, All: true, Print: true}},
		{"pg", api.Cmd{Nth: 1, All: true, Print: true}},
		{"3g", api.Cmd{Nth: 3, All: true}},
		{"g3", api.Cmd{Nth: 3, All: true}},
		{"3p", api.Cmd{Nth: 3, Print: true}},
		{"p3", api.Cmd{Nth: 3, Print: true}},
		{"3gp", api.Cmd{Nth: 3, All: true, Print: true}},
		{"3pg", api.Cmd{Nth: 3, All: true, Print: true}},
		{"g3p", api.Cmd{Nth: 3, All: true, Print: true}},
		{"p3g", api.Cmd{Nth: 3, All: true, Print: true}},
		{"gp3", api.Cmd{Nth: 3, All: true, Print: true}},
		{"pg3", api.Cmd{Nth: 3, All: true, Print: true}},
	} {
		x.want.Kind, x.want.Parts = 's', b
		for _, behind := range []string{"", " \t", ";p", "\np", " #p", "#", "\t;"} {
			checkRight(t, both, right{"»s/a/b/" + x.flags + behind, x.want})
		}
		checkRight(t, both, right{"{»s/a/b/" + x.flags + "}", x.want})
		writes := x.want
		writes.File = 1
		for _, name := range []string{"f", " f", "\tf\np", "w", " g", "p;1}", "g3p"} {
			checkRight(t, both, right{"»s/a/b/" + x.flags + "w" + name, writes})
		}
		writes.File = api.StdOut
		checkRight(t, both, right{"»s/a/b/" + x.flags + "w /dev/stdout\n", writes})
		checkWrong(t, both,
			wrong{"s/a/b/" + x.flags + "w»", api.ErrName},
			wrong{"s/a/b/" + x.flags + "w  »\n", api.ErrName},
			wrong{"s/a/b/" + x.flags + "w »f g", api.ErrName},
			wrong{"s/a/b/" + x.flags + "»i", api.ErrExtra},
			wrong{"s/a/b/" + x.flags + "  »g", api.ErrExtra},
			wrong{"s/a/b/" + x.flags + " »w f", api.ErrExtra},
			wrong{"s/a/b/" + x.flags + "»-", api.ErrExtra},
			wrong{"s/a/b/" + x.flags + "»/", api.ErrExtra})
		if strings.Contains(x.flags, "g") {
			checkWrong(t, both, wrong{"s/a/b/" + x.flags + "»g", api.ErrFlag}, wrong{"s/a/b/" + x.flags + "»gw", api.ErrFlag})
		}
		if strings.Contains(x.flags, "p") {
			checkWrong(t, both, wrong{"s/a/b/" + x.flags + "»p", api.ErrFlag}, wrong{"s/a/b/" + x.flags + "»p513", api.ErrFlag})
		}
		if strings.Contains(x.flags, "3") && !strings.HasSuffix(x.flags, "3") {
			checkWrong(t, both, wrong{"s/a/b/" + x.flags + "»3", api.ErrFlag}, wrong{"s/a/b/" + x.flags + "»1g", api.ErrFlag})
		}
	}
	checkWrong(t, both,
		wrong{"s/a/b/»0", api.ErrFlag},
		wrong{"s/a/b/»000", api.ErrFlag},
		wrong{"s/a/b/»0g", api.ErrFlag},
		wrong{"s/a/b/g»0p", api.ErrFlag},
		wrong{"s/a/b/»0x", api.ErrFlag},
		wrong{"s/a/b/»513", api.ErrRange},
		wrong{"s/a/b/p»0513g", api.ErrRange},
		wrong{"s/a/b/»18446744073709551617", api.ErrRange},
		wrong{"s/a/b/2p»3", api.ErrFlag},
		wrong{"s/a/b/2p»0", api.ErrFlag},
		wrong{"s/a/b/2p»513", api.ErrRange},
		wrong{"s/a/b/»513gg", api.ErrRange},
		wrong{"s/a/b/g»g513", api.ErrFlag},
		wrong{"s/a/b/gp»g p", api.ErrFlag},
		wrong{"s/a/b/p»pw", api.ErrFlag},
	)
	for c := range 256 {
		f := string([]byte{byte(c)})
		if !strings.Contains("gpw0123456789 \t\n;}#", f) {
			checkWrong(t, both, wrong{"s/a/b/»" + f, api.ErrExtra}, wrong{"s/a/b/g2»" + f, api.ErrExtra})
		}
	}
}

// P16.1: the parts of s.
func TestSwaps(t *testing.T) {
	checkRight(t, both,
		right{"»s/a/b/", api.Cmd{Kind: 's', Parts: parts(text("b")), Nth: 1}},
		right{"»s/a//", api.Cmd{Kind: 's', Nth: 1}},
		right{"»s///", api.Cmd{Kind: 's', Re: -1, Nth: 1}},
		right{"»s//b/", api.Cmd{Kind: 's', Re: -1, Parts: parts(text("b")), Nth: 1}},
		right{`»s//\1&\9/`, api.Cmd{Kind: 's', Re: -1, Parts: parts(group(1), group(0), group(9)), Nth: 1}},
		right{`»s/a/\/\&\n\\/`, api.Cmd{Kind: 's', Parts: parts(text("/&\n\\")), Nth: 1}},
		right{"»s/a/x\\\ny/", api.Cmd{Kind: 's', Parts: parts(text("x\ny")), Nth: 1}},
		right{"»s/a\\\nb/c/", api.Cmd{Kind: 's', Parts: parts(text("c")), Nth: 1}},
		right{`»s/a\/b/c/`, api.Cmd{Kind: 's', Parts: parts(text("c")), Nth: 1}},
		right{"»s/a/;p}#{/;p", api.Cmd{Kind: 's', Parts: parts(text(";p}#{")), Nth: 1}},
		right{"/x/s/y/z/;»s/a/b/", api.Cmd{Kind: 's', Re: 2, Parts: parts(text("b")), Nth: 1}},
		right{"»/x/s//b/", api.Cmd{One: re(0), Kind: 's', Re: -1, Parts: parts(text("b")), Nth: 1}},
		right{"»s/a/\x00\xff/", api.Cmd{Kind: 's', Parts: parts(text("\x00\xff")), Nth: 1}},
	)
	for _, d := range strings.Split(delims, "") {
		checkRight(t, both,
			right{"»s" + d + "a" + d + "b" + d, api.Cmd{Kind: 's', Parts: parts(text("b")), Nth: 1}},
			right{"»s" + d + "a" + `\` + d + d + `[\` + d + `]&` + d + "2g", api.Cmd{Kind: 's', Parts: parts(text("["+d+"]"), group(0)), Nth: 2, All: true}},
			right{"»s" + d + d + d + "p", api.Cmd{Kind: 's', Re: -1, Nth: 1, Print: true}})
	}
	checkRight(t, basic,
		right{`»s/\(a\)\(b\)/\2\1/`, api.Cmd{Kind: 's', Parts: parts(group(2), group(1)), Nth: 1}},
		right{`»s/\(\(\(a\)\)\)/\3/g`, api.Cmd{Kind: 's', Parts: parts(group(3)), Nth: 1, All: true}},
	)
	checkRight(t, extended,
		right{`»s/(a)|(b)/\2\1/`, api.Cmd{Kind: 's', Parts: parts(group(2), group(1)), Nth: 1}},
		right{`»s/` + strings.Repeat("(a)", 9) + `/\9/`, api.Cmd{Kind: 's', Parts: parts(group(9)), Nth: 1}},
	)
}

// P16.1: what is wrong in the parts of s.
func TestWrongSwaps(t *testing.T) {
	for _, letter := range []string{"s", "y", "1,2!s", "$ y"} {
		checkWrong(t, both,
			wrong{letter + sign, api.ErrDelim},
			wrong{letter + "»\n", api.ErrDelim},
			wrong{letter + "» /a/b/", api.ErrDelim},
			wrong{letter + "»;", api.ErrDelim},
			wrong{letter + "»/", api.ErrDelim},
			wrong{letter + "»/a", api.ErrDelim},
			wrong{letter + "»/a/", api.ErrDelim},
			wrong{letter + "»/a/b", api.ErrDelim},
			wrong{letter + `»/a\/b/`, api.ErrDelim},
			wrong{letter + `»/a/b\/`, api.ErrDelim},
			wrong{letter + `»/a/b\`, api.ErrDelim},
			wrong{letter + "»/a\n/b/", api.ErrDelim},
			wrong{letter + "»/a/b\n/", api.ErrDelim},
			wrong{letter + "»/a/\\\\\n/", api.ErrDelim},
			wrong{letter + "»/[/", api.ErrDelim},
			wrong{letter + `»/\q/`, api.ErrDelim},
			wrong{letter + `»/\q/\q\9`, api.ErrDelim},
			wrong{letter + "»/[/b\n/", api.ErrDelim},
			wrong{letter + `»/a/\8`, api.ErrDelim},
			wrong{letter + `»/aa/bc;p`, api.ErrDelim},
			wrong{letter + "»(a(b(", api.ErrDelim},
		)
	}
	for c := range 256 {
		d := string([]byte{byte(c)})
		if !strings.Contains(delims, d) {
			checkWrong(t, both, wrong{"s»" + d + "a" + d + "b" + d, api.ErrDelim}, wrong{"y»" + d + "a" + d + "b" + d, api.ErrDelim})
		}
	}
	checkWrong(t, both,
		wrong{"s/»[/b/", api.ErrBracket},
		wrong{`s/»[/\8/gg`, api.ErrBracket},
		wrong{`s/»\q/\8/`, api.ErrEscape},
		wrong{`s/a/»\1/`, api.ErrBack},
		wrong{`s/abc/x&»\1/gg`, api.ErrBack},
		wrong{`s/a/b\/»\9/`, api.ErrBack},
		wrong{`s/a/b/»k`, api.ErrExtra},
		wrong{`{s,a,&»\2,`, api.ErrBack},
	)
	checkWrong(t, basic, wrong{`s/\(a\)/\1»\2/`, api.ErrBack}, wrong{`s/(a)/»\1/`, api.ErrBack})
	checkWrong(t, extended, wrong{`s/(a)/\1»\2/`, api.ErrBack}, wrong{`s/\(a\)/»\1/`, api.ErrBack})
	for groups := range 10 {
		regex := "x" + strings.Repeat("(a)", groups)
		for n := 1; n <= 9; n++ {
			if n > groups {
				checkWrong(t, extended, wrong{"s/" + regex + `/»\` + strconv.Itoa(n) + "/", api.ErrBack})
			} else {
				checkRight(t, extended, right{"»s/" + regex + `/\` + strconv.Itoa(n) + "/", api.Cmd{Kind: 's', Parts: parts(group(n)), Nth: 1}})
			}
		}
	}
	if _, at, e := swap.Parse([]byte(`\0`), 0); e != api.OK {
		t.Fatal(at, e)
	}
	checkRight(t, both, right{`»s/a/\0/`, api.Cmd{Kind: 's', Parts: parts(text("0")), Nth: 1}})
}

// P16.1: the rows of y.
func TestRows(t *testing.T) {
	for _, x := range []struct{ script, from, into string }{
		{"///", "", ""},
		{"/a/b/", "a", "b"},
		{"/abc/bca/", "abc", "bca"},
		{"/abc/zzz/", "abc", "zzz"},
		{`/a\nb/123/`, "a\nb", "123"},
		{`/abc/\n\n\\/`, "abc", "\n\n\\"},
		{`/\\/\//`, `\`, "/"},
		{`/\/\\\n/\n\/\\/`, "/\\\n", "\n/\\"},
		{`,\,a,a\,,`, ",a", "a,"},
		{`/n\n/\nn/`, "n\n", "\nn"},
		{"/;}# /p{1!/", ";}# ", "p{1!"},
		{"/[.*/^$&/", "[.*", "^$&"},
		{"/\x00\xff/\xff\x00/", "\x00\xff", "\xff\x00"},
		{"/é/ab/", "é", "ab"},
		{"_\\_1_2\\__", "_1", "2_"},
	} {
		want := api.Cmd{Kind: 'y', From: []byte(x.from), Into: []byte(x.into)}
		for _, behind := range []string{"", " \t", ";p", "\np", "#p", " # p\n"} {
			checkRight(t, both, right{"»y" + x.script + behind, want})
		}
		checkRight(t, both, right{"{»y" + x.script + "}", want})
		checkWrong(t, both, wrong{"y" + x.script + "»g", api.ErrExtra}, wrong{"y" + x.script + " »y", api.ErrExtra}, wrong{"y" + x.script + "»1", api.ErrExtra})
	}
	for _, d := range strings.Split(delims, "") {
		checkRight(t, both, right{"»y" + d + `a\` + d + d + `\` + d + `\\` + d, api.Cmd{Kind: 'y', From: []byte("a" + d), Into: []byte(d + `\`)}})
	}
	checkWrong(t, both,
		wrong{"y»/ab/c/", api.ErrPair},
		wrong{"y»/a/bc/", api.ErrPair},
		wrong{"y»//c/", api.ErrPair},
		wrong{"y»/a//", api.ErrPair},
		wrong{"y»/aa/bc/", api.ErrPair},
		wrong{"y»/abca/bcde/", api.ErrPair},
		wrong{"y»/abb/xyz/", api.ErrPair},
		wrong{`y»/\n\n/ab/`, api.ErrPair},
		wrong{`y»/\\b\\/abc/`, api.ErrPair},
		wrong{`y»/\/a\//abc/`, api.ErrPair},
		wrong{`y»/\n/ab/`, api.ErrPair},
		wrong{`y»/ab/\\/`, api.ErrPair},
		wrong{"y»/é/e/", api.ErrPair},
		wrong{"y»/éè/abcd/", api.ErrPair},
		wrong{"y»/aa/b/", api.ErrPair},
		wrong{"1!y»,ab,c,;k", api.ErrPair},
		wrong{"y»/ab/c/g", api.ErrPair},
		wrong{`y/a»\q/bc/`, api.ErrEscape},
		wrong{`y/abc/12»\3/`, api.ErrEscape},
		wrong{`y/»\a/\b/`, api.ErrEscape},
		wrong{`y/ab/»\b/`, api.ErrEscape},
		wrong{`y/aa/»\b/`, api.ErrEscape},
		wrong{`y/a\\\/\n»\&/b/`, api.ErrEscape},
		wrong{`y/\\a/\/»\,/`, api.ErrEscape},
		wrong{"y/a»\\\n/bc/", api.ErrEscape},
		wrong{"y/a/»\\\n/", api.ErrEscape},
		wrong{`y/a/b»\q/g`, api.ErrEscape},
		wrong{`y,a»\/,bc,`, api.ErrEscape},
	)
	for c := range 256 {
		b := string([]byte{byte(c)})
		if !strings.Contains(`\n/`, b) {
			checkWrong(t, both, wrong{`y/»\` + b + "/a/", api.ErrEscape}, wrong{`y/a/»\` + b + "/", api.ErrEscape})
		}
		if !strings.Contains("\\\n/", b) {
			checkRight(t, both, right{"»y/" + b + "/" + b + "/", api.Cmd{Kind: 'y', From: []byte(b), Into: []byte(b)}})
			checkWrong(t, both, wrong{"y»/" + b + "x" + b + "/abc/", api.ErrPair})
		}
	}
	all := ""
	for c := range 256 {
		switch c {
		case '\n':
			all += `\n`
		case '\\', '/':
			all += `\`
			fallthrough
		default:
			all += string([]byte{byte(c)})
		}
	}
	c, _ := mustParse(t, "y/"+all+"/"+all+"/", false).Cmd(0)
	if len(c.From) != 256 || string(c.From) != string(c.Into) {
		t.Error(c.From)
	}
	checkWrong(t, both, wrong{"y»/" + all + "a/" + all + "b/", api.ErrPair}, wrong{"y»/" + all + "/" + all + "a/", api.ErrPair})
}

// P16.1: what may stand behind each command, and what may not.
func TestEnds(t *testing.T) {
	for _, x := range tails() {
		command := string([]byte{x.letter}) + x.script
		if strings.Contains("acirw", command[:1]) {
			continue
		}
		for c := range 256 {
			b := string([]byte{byte(c)})
			checkEnd(t, x, command, b)
		}
	}
	for _, command := range []string{"{", "{ \t", "p;{", "{{"} {
		ends := strings.Repeat("}", strings.Count(command, "{"))
		for _, behind := range []string{"p", "1p", ";p", "\np", "#a\np", " p", "\t;p", "//p", "!p", ":x", "{}", "a\\\n", "r f\n", "$!{}"} {
			if e := mustParse(t, command+behind+"\n"+ends, false); e == nil {
				t.Errorf("%q, %q", command, behind)
			}
		}
	}
}

// checkEnd puts b behind a command, alone and behind blanks.
func checkEnd(t *testing.T, x tail, command, b string) {
	t.Helper()
	fits := map[byte]string{':': labelBytes, 'b': labelBytes, 't': labelBytes, 'l': "0123456789", 'q': "0123456789", 's': "gpw0123456789"}
	for _, blanks := range []string{"", " \t"} {
		if strings.Contains(" \t", b) || strings.Contains(fits[x.letter], b) && (blanks == "" || strings.IndexByte("btlq", x.letter) >= 0) {
			continue
		}
		script := "{" + command + blanks
		switch b {
		case "\n", ";":
			checkRight(t, both, right{script + b + "}" + b + "»x", api.Cmd{Kind: 'x'}})
		case "}":
			checkRight(t, both, right{script + sign + b, api.Cmd{Kind: '}'}})
		case "#":
			checkRight(t, both, right{script + b + "k\n»}", api.Cmd{Kind: '}'}})
		default:
			checkWrong(t, both, wrong{script + sign + b + "}", api.ErrExtra}, wrong{script + sign + b, api.ErrExtra})
		}
	}
}

// P16.1: of two things that are wrong the one that comes first as it is read is told.
func TestFirstOfTwo(t *testing.T) {
	checkWrong(t, both,
		wrong{"p »p;k", api.ErrExtra},
		wrong{"»k p;}", api.ErrCommand},
		wrong{"1,»k", api.ErrAddr},
		wrong{"1,2»k 256", api.ErrCommand},
		wrong{"1,2»q 256", api.ErrAddr},
		wrong{"q »256 x", api.ErrRange},
		wrong{"»/a\n}", api.ErrDelim},
		wrong{"/»[/,/[/k", api.ErrBracket},
		wrong{"»}1,p", api.ErrBlock},
		wrong{"{1»}", api.ErrAddr},
		wrong{"1»}", api.ErrAddr},
		wrong{"bx;s»/a", api.ErrDelim},
		wrong{"bx;{»", api.ErrBlock},
		wrong{"{bx;by»", api.ErrBlock},
		wrong{"»tx;by;:z", api.ErrLabel},
		wrong{":a;b»-;:a", api.ErrExtra},
		wrong{":a;:»a;b-", api.ErrThere},
		wrong{"r »a b\nk", api.ErrName},
		wrong{"a»x\\\n\\", api.ErrExtra},
		wrong{"a\\\n»x\\", api.ErrEscape},
		wrong{"s/»\\q/\\1/0", api.ErrEscape},
		wrong{"s/a/»\\1/0", api.ErrBack},
		wrong{"s/a/b/»0w", api.ErrFlag},
		wrong{"s/a/b/g»gw", api.ErrFlag},
		wrong{"s/a/b/w»\n}", api.ErrName},
		wrong{"y»/ab/c/ x", api.ErrPair},
		wrong{"y/»\\ab/\\c/ x", api.ErrEscape},
		wrong{"1!»:a b", api.ErrAddr},
		wrong{"»2147483649,", api.ErrRange},
		wrong{"1,»2147483649k", api.ErrRange},
	)
}
