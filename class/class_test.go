package class_test

import (
	"bytes"
	"slices"
	"strings"
	"testing"

	"palinode/api"
	"palinode/class"
	"palinode/digit"
)

// model is a set told the plain way: for each byte, whether it is in it.
type model [256]bool

// modelOf reads a set by api's words alone: byte c is in it, if bit c % 64 of word c / 64 is 1.
func modelOf(s api.Set) model {
	var m model
	for c := range 256 {
		m[c] = s[c/64]>>(c%64)%2 == 1
	}
	return m
}

func modelOfBytes(l []byte) model {
	var m model
	for _, c := range l {
		m[c] = true
	}
	return m
}

func everyByte() []byte {
	var l []byte
	for c := range 256 {
		l = append(l, byte(c))
	}
	return l
}

// edges are the bytes at the edge of what one number of a set holds, and those beside them.
var edges = []byte{0, 1, 62, 63, 64, 65, 126, 127, 128, 129, 190, 191, 192, 193, 254, 255}

// someSets are sets of many kinds: without bytes, with one, with all, at the edges, and others.
func someSets() []api.Set {
	l := []api.Set{
		{},
		{1},
		{1 << 63},
		{0, 1},
		{0, 0, 0, 1 << 63},
		{1, 0, 0, 1 << 63},
		{1 << 63, 1, 1 << 63, 1},
		{^uint64(0)},
		{0, ^uint64(0)},
		{0, 0, ^uint64(0)},
		{0, 0, 0, ^uint64(0)},
		{^uint64(0), ^uint64(0), ^uint64(0), ^uint64(0)},
		{^uint64(0), ^uint64(0), ^uint64(0), ^uint64(0) >> 1},
		{0xaaaaaaaaaaaaaaaa, 0xaaaaaaaaaaaaaaaa, 0xaaaaaaaaaaaaaaaa, 0xaaaaaaaaaaaaaaaa},
		{0x5555555555555555, 0x5555555555555555, 0x5555555555555555, 0x5555555555555555},
		{0x0123456789abcdef, 0xfedcba9876543210, 0xdeadbeef00c0ffee, 0x8000000000000001},
	}
	for _, c := range everyByte() {
		var s api.Set
		s[c/64] = 1 << (c % 64)
		l = append(l, s)
	}
	return l
}

// P5.1: Of of no bytes is the set without any.
func TestOfNone(t *testing.T) {
	if s := class.Of(); s != (api.Set{}) {
		t.Fatal(s)
	}
	if s := class.Of([]byte{}...); s != (api.Set{}) {
		t.Fatal(s)
	}
	if s := class.Of(nil...); s != (api.Set{}) {
		t.Fatal(s)
	}
}

// P5.1: Of of one byte has that byte alone, for every byte.
func TestOfOne(t *testing.T) {
	for _, c := range everyByte() {
		if got, want := modelOf(class.Of(c)), modelOfBytes([]byte{c}); got != want {
			t.Errorf("%d: %v", c, class.Of(c))
		}
	}
}

// P5.1: Of of many bytes has just these, in whatever order and however often they come.
func TestOfMany(t *testing.T) {
	for _, l := range [][]byte{
		[]byte("ab\x00\xff"),
		[]byte("ba\xff\x00"),
		[]byte("aaaa"),
		[]byte("abab"),
		{0, 0},
		{255, 255, 255},
		edges,
		slices.Concat(edges, edges),
		everyByte(),
		bytes.Repeat(everyByte(), 40),
	} {
		if got, want := modelOf(class.Of(l...)), modelOfBytes(l); got != want {
			t.Errorf("%v: %v", l, class.Of(l...))
		}
	}
	if s := class.Of('a', 'b', 0, 255); s != (api.Set{1, 3 << 33, 0, 1 << 63}) {
		t.Error(s)
	}
}

// P5.1: Of of all pairs of bytes has both.
func TestOfPairs(t *testing.T) {
	for _, a := range everyByte() {
		for _, b := range everyByte() {
			if got, want := modelOf(class.Of(a, b)), modelOfBytes([]byte{a, b}); got != want {
				t.Fatalf("%d, %d: %v", a, b, class.Of(a, b))
			}
		}
	}
}

// P5.1: Range has the bytes from a to b, for all a and b: one if they are the same, none if b is less.
func TestRangeAll(t *testing.T) {
	for a := range 256 {
		for b := range 256 {
			var want model
			for c := range 256 {
				want[c] = a <= c && c <= b
			}
			if got := modelOf(class.Range(byte(a), byte(b))); got != want {
				t.Fatalf("%d to %d: %v", a, b, class.Range(byte(a), byte(b)))
			}
		}
	}
}

// P5.1: Range at the edges: all bytes, the first, the last, and ends that lie ahead of the beginning.
func TestRangeEdges(t *testing.T) {
	all := ^uint64(0)
	for _, x := range []struct {
		a, b byte
		want api.Set
	}{
		{0, 255, api.Set{all, all, all, all}},
		{0, 0, api.Set{1}},
		{255, 255, api.Set{0, 0, 0, 1 << 63}},
		{63, 64, api.Set{1 << 63, 1}},
		{64, 127, api.Set{0, all}},
		{127, 128, api.Set{0, 1 << 63, 1}},
		{191, 192, api.Set{0, 0, 1 << 63, 1}},
		{255, 0, api.Set{}},
		{1, 0, api.Set{}},
		{255, 254, api.Set{}},
		{'b', 'a', api.Set{}},
		{64, 63, api.Set{}},
	} {
		if got := class.Range(x.a, x.b); got != x.want {
			t.Errorf("%d to %d: %v, want %v", x.a, x.b, got, x.want)
		}
	}
}

// P5.1: Named has the bytes of each class, told here by the words of chapter 1.
func TestNamed(t *testing.T) {
	const (
		upper = "ABCDEFGHIJKLMNOPQRSTUVWXYZ"
		lower = "abcdefghijklmnopqrstuvwxyz"
		nums  = "0123456789"
		punct = "!\"#$%&'()*+,-./:;<=>?@[\\]^_`{|}~"
		cntrl = "\x00\x01\x02\x03\x04\x05\x06\x07\x08\x09\x0a\x0b\x0c\x0d\x0e\x0f\x10\x11\x12\x13\x14\x15\x16\x17\x18\x19\x1a\x1b\x1c\x1d\x1e\x1f\x7f"
	)
	for name, want := range map[string]string{
		"upper":  upper,
		"lower":  lower,
		"digit":  nums,
		"alpha":  upper + lower,
		"alnum":  upper + lower + nums,
		"blank":  " \t",
		"space":  " \t\n\v\f\r",
		"cntrl":  cntrl,
		"graph":  upper + lower + nums + punct,
		"print":  upper + lower + nums + punct + " ",
		"punct":  punct,
		"xdigit": nums + "ABCDEFabcdef",
	} {
		s, ok := class.Named(name)
		if !ok || modelOf(s) != modelOfBytes([]byte(want)) {
			t.Errorf("%s: %v, %v", name, s, ok)
		}
	}
}

// P5.1: what Named has is what chapter 1 says of each byte and that name.
func TestNamedIsOfDigit(t *testing.T) {
	for _, name := range []string{"upper", "lower", "digit", "alpha", "alnum", "blank", "space", "cntrl", "graph", "print", "punct", "xdigit", "", "word"} {
		s, ok := class.Named(name)
		got := modelOf(s)
		for _, c := range everyByte() {
			in, there := digit.Is(name, c)
			if got[c] != in || ok != there {
				t.Errorf("%q, %d: %v, %v", name, c, got[c], ok)
			}
		}
	}
}

// P5.1: of a name of no class Named answers false, and (R3) the set without bytes.
func TestNamedNone(t *testing.T) {
	for _, name := range []string{
		"", "Digit", "DIGIT", "digi", "digits", " digit", "digit ", "digit\n", "digit\x00", "[:digit:]", ":digit:",
		"upperlower", "word", "ascii", "any", "all", "none", "a", "\x00", "\xff", "dıgit", strings.Repeat("digit", 20000),
	} {
		if s, ok := class.Named(name); ok || s != (api.Set{}) {
			t.Errorf("%.20q: %v, %v", name, s, ok)
		}
	}
}

// P5.1: the union of no sets has nothing, and that of one is that one.
func TestUnionNoneAndOne(t *testing.T) {
	if s := class.Union(); s != (api.Set{}) {
		t.Error(s)
	}
	if s := class.Union(nil...); s != (api.Set{}) {
		t.Error(s)
	}
	for _, s := range someSets() {
		if u := class.Union(s); u != s {
			t.Errorf("%v: %v", s, u)
		}
	}
}

// P5.1 and P5.2: what is in a union of two is in one of them, and what is in one of them is in the union.
func TestUnionTwo(t *testing.T) {
	for _, a := range someSets() {
		inA := modelOf(a)
		for _, b := range someSets() {
			want := modelOf(b)
			for c := range 256 {
				want[c] = want[c] || inA[c]
			}
			if got := modelOf(class.Union(a, b)); got != want {
				t.Fatalf("%v, %v: %v", a, b, class.Union(a, b))
			}
		}
	}
}

// P5.1 and P5.2: a union of many has what is in one of them, and nothing else.
func TestUnionMany(t *testing.T) {
	var ones []api.Set
	for n, c := range everyByte() {
		ones = append(ones, class.Of(c))
		if u := class.Union(ones...); u != class.Range(0, byte(n)) {
			t.Fatalf("%d: %v", n, u)
		}
	}
	d, _ := class.Named("digit")
	if u := class.Union(d, class.Of(), class.Of('_', '_'), class.Range('a', 'f'), d); string(class.Bytes(u)) != "0123456789_abcdef" {
		t.Error(u)
	}
	if u := class.Union(d, class.Range('5', 'F')); u != class.Range('0', 'F') {
		t.Error(u)
	}
	if u := class.Union(make([]api.Set, 1000)...); u != class.Of() {
		t.Error(u)
	}
}

// P5.1 and P5.2: what is in Not(s) isn't in s, and what isn't in s is in Not(s).
func TestNot(t *testing.T) {
	for _, s := range someSets() {
		n := class.Not(s)
		inS, inN := modelOf(s), modelOf(n)
		for c := range 256 {
			if inN[c] == inS[c] {
				t.Fatalf("%v: %d: %v", s, c, n)
			}
		}
		if class.Not(n) != s {
			t.Errorf("%v: twice: %v", s, class.Not(n))
		}
		if class.Union(s, n) != class.Range(0, 255) {
			t.Errorf("%v: with Not: %v", s, class.Union(s, n))
		}
	}
}

// P5.1: Not of no bytes has all 256, and Not of all has none.
func TestNotEdges(t *testing.T) {
	all := class.Not(class.Of())
	if all != (api.Set{^uint64(0), ^uint64(0), ^uint64(0), ^uint64(0)}) || class.Count(all) != 256 || !bytes.Equal(class.Bytes(all), everyByte()) {
		t.Error(all)
	}
	if none := class.Not(class.Range(0, 255)); none != (api.Set{}) || class.Count(none) != 0 || len(class.Bytes(none)) != 0 {
		t.Error(none)
	}
}

// P5.1: Has tells each byte of each set by its bit.
func TestHas(t *testing.T) {
	for _, s := range someSets() {
		want := modelOf(s)
		for _, c := range everyByte() {
			if class.Has(s, c) != want[c] {
				t.Fatalf("%v: %d: %v", s, c, class.Has(s, c))
			}
		}
	}
}

// P5.1: Count tells how many there are, and Bytes tells them, rising.
func TestCountAndBytes(t *testing.T) {
	for _, s := range someSets() {
		var want []byte
		for c, in := range modelOf(s) {
			if in {
				want = append(want, byte(c))
			}
		}
		if n := class.Count(s); n != len(want) {
			t.Errorf("%v: %d, want %d", s, n, len(want))
		}
		if b := class.Bytes(s); !bytes.Equal(b, want) {
			t.Errorf("%v: %v, want %v", s, b, want)
		}
	}
	if b := class.Bytes(class.Of(255, 'b', 0, 'a', 'b', 64, 63)); string(b) != "\x00?@ab\xff" {
		t.Errorf("%q", b)
	}
}

// P5.2: Of(Bytes(s)) is s, whichever bits s has.
func TestOfBytes(t *testing.T) {
	for _, s := range someSets() {
		if o := class.Of(class.Bytes(s)...); o != s {
			t.Errorf("%v: %v", s, o)
		}
	}
	for a := range 256 {
		for b := a; b < 256; b++ {
			if s := class.Range(byte(a), byte(b)); class.Of(class.Bytes(s)...) != s {
				t.Fatalf("%d to %d", a, b)
			}
		}
	}
}

// R4: what is handed in stays as it was, and what lies behind its length is neither read nor written.
func TestArgumentsStay(t *testing.T) {
	l := []byte("abcxyz")
	if s := class.Of(l[:3]...); s != class.Range('a', 'c') || string(l) != "abcxyz" {
		t.Errorf("%v, %q", s, l)
	}
	sets := []api.Set{class.Of('a'), class.Of('b'), class.Of('c')}
	if u := class.Union(sets[:2]...); u != class.Of('a', 'b') {
		t.Error(u)
	}
	if !slices.Equal(sets, []api.Set{class.Of('a'), class.Of('b'), class.Of('c')}) {
		t.Error(sets)
	}
	s := class.Range('a', 'z')
	class.Not(s)
	if s != class.Range('a', 'z') {
		t.Error(s)
	}
}

// R4: what Bytes answers is new memory, and may be written over and grown.
func TestBytesAreNew(t *testing.T) {
	s := class.Of('a', 'b', 'c')
	one, two := class.Bytes(s), class.Bytes(s)
	one[0] = 'z'
	_ = append(one[:1], "yyyy"...)
	if string(two) != "abc" || string(class.Bytes(s)) != "abc" {
		t.Errorf("%q, %q", two, class.Bytes(s))
	}
}

// R4 and R6: sets that are answered are values: written over, they change nothing that is answered later.
func TestSetsAreValues(t *testing.T) {
	s, _ := class.Named("upper")
	want := s
	s[1] = 0
	if again, ok := class.Named("upper"); !ok || again != want {
		t.Error(again, ok)
	}
	none := class.Of()
	none[0] = 1
	if class.Of() != (api.Set{}) || class.Union() != (api.Set{}) {
		t.Error("the empty set was changed")
	}
}
