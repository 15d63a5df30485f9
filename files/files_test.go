package files_test

import (
	"bytes"
	"math"
	"slices"
	"strconv"
	"strings"
	"testing"

	"palinode/api"
	"palinode/files"
)

func file(name, b string) api.File { return api.File{Name: name, B: []byte(b)} }

func same(a, b api.File) bool { return a.Name == b.Name && bytes.Equal(a.B, b.B) }

// told shows files: each name quoted, and behind it its bytes, or how many they are.
func told(l ...api.File) string {
	var b strings.Builder
	for _, f := range l {
		b.WriteString(" " + strconv.Quote(f.Name) + ":")
		if len(f.B) > 40 {
			b.WriteString(strconv.Itoa(len(f.B)))
		} else {
			b.WriteString(strconv.Quote(string(f.B)))
		}
	}
	return b.String()
}

// table makes a table of files that must be right.
func table(t *testing.T, l ...api.File) *files.Table {
	t.Helper()
	f, e := files.New(l...)
	if e != api.OK || f == nil {
		t.Fatalf("New(%s ): %v", told(l...), e)
	}
	return f
}

// check holds whatever a table tells against the files that it should have.
func check(t *testing.T, f *files.Table, want ...api.File) {
	t.Helper()
	if got := f.All(); !slices.EqualFunc(got, want, same) {
		t.Errorf("All() =%s; want%s", told(got...), told(want...))
	}
	for _, x := range want {
		if b, ok := f.Get(x.Name); !ok || !bytes.Equal(b, x.B) {
			t.Errorf("Get(%q) = %.40q, %v; want %.40q", x.Name, b, ok, x.B)
		}
		if n := f.Len(x.Name); n != len(x.B) {
			t.Errorf("Len(%q) = %d; want %d", x.Name, n, len(x.B))
		}
	}
}

// absent checks that there is no file of that name.
func absent(t *testing.T, f *files.Table, name string) {
	t.Helper()
	if b, ok := f.Get(name); ok || b != nil {
		t.Errorf("Get(%.80q) = %.40q, %v", name, b, ok)
	}
	if n := f.Len(name); n != -1 {
		t.Errorf("Len(%.80q) = %d", name, n)
	}
}

// some are n files by the names f0, f1 .. , each with a byte.
func some(n int) []api.File {
	var l []api.File
	for i := range n {
		l = append(l, file("f"+strconv.Itoa(i), "x"))
	}
	return l
}

// sized has so many bytes, no two neighbours of which are one.
func sized(n int) []byte {
	b := make([]byte, n)
	for i := range b {
		b[i] = byte(i % 251)
	}
	return b
}

// wrongNames are names that are none: empty, too long, or with a byte outside.
func wrongNames() []string {
	return []string{
		"", " ", "\x00", "\n", "\t", "\x1f", "\x20", "\x7f", "\x80", "\xff", "é", "a b", " a", "a ", "a\n", "a\x00b", "a\x7f",
		strings.Repeat("x", api.MaxName+1), strings.Repeat("x", api.MaxName-1) + " ", strings.Repeat("x", api.MaxText),
	}
}

// P3.1: a name has 1 to 64 bytes.
func TestNameLengths(t *testing.T) {
	for n := range 200 {
		for _, c := range []string{"!", "x", "~"} {
			if got, want := files.IsName(strings.Repeat(c, n)), n >= 1 && n <= 64; got != want {
				t.Errorf("IsName of %d times %s = %v", n, c, got)
			}
		}
	}
}

// P3.1: each byte of a name is from 33 to 126: alone, as the first, amidst, and as the last of 64.
func TestNameBytes(t *testing.T) {
	long := strings.Repeat("x", 63)
	for c := range 256 {
		s := string([]byte{byte(c)})
		for _, name := range []string{s, s + "y", "x" + s + "y", "x" + s, s + long, long + s} {
			if got, want := files.IsName(name), c >= 33 && c <= 126; got != want {
				t.Errorf("IsName(%q) = %v", name, got)
			}
		}
	}
	for _, name := range wrongNames() {
		if files.IsName(name) {
			t.Errorf("IsName(%.80q)", name)
		}
	}
	for _, name := range []string{"a", "-", "/dev/stdout", "..", "a.txt", "!", "~", "\"'\\", "0"} {
		if !files.IsName(name) {
			t.Errorf("not IsName(%q)", name)
		}
	}
}

// P3.1: New keeps the files in their order, empty ones too, and any bytes of them.
func TestNew(t *testing.T) {
	for _, l := range [][]api.File{
		nil,
		{},
		{{Name: "a"}},
		{{Name: "a", B: []byte{}}},
		{file("b", "1\n"), file("a", "2"), file("c", "")},
		{file("a", "x"), file("A", "x"), file("aa", "x"), file("a.", "x")},
		{file(strings.Repeat("~", 64), "\x00\xff\n\n"), file(strings.Repeat("~", 63), "\x00")},
		{{Name: "a", B: sized(api.MaxText)}, {Name: "b", B: sized(api.MaxText)}},
		some(api.MaxFiles),
	} {
		f := table(t, l...)
		check(t, f, l...)
		absent(t, f, "z")
		absent(t, f, "")
	}
	f, e := files.New(file("one", "1"), file("two", "22"))
	if e != api.OK {
		t.Fatal(e)
	}
	check(t, f, file("one", "1"), file("two", "22"))
}

// P3.1: 16 files of 65,536 bytes each.
func TestGreatestTable(t *testing.T) {
	l := some(api.MaxFiles)
	for i := range l {
		l[i].B = sized(api.MaxText)
	}
	f := table(t, l...)
	check(t, f, l...)
	check(t, f.Copy(), l...)
}

// P3.1: of all that is wrong, too many files come first; then the first file that is wrong, by its name, its name ahead, its length.
func TestNewRefuses(t *testing.T) {
	long := sized(api.MaxText + 1)
	full := some(api.MaxFiles)
	for i, x := range []struct {
		l    []api.File
		want api.Errno
	}{
		{some(17), api.ErrFull},
		{make([]api.File, 17), api.ErrFull},
		{slices.Repeat([]api.File{{Name: "a", B: long}}, 17), api.ErrFull},
		{make([]api.File, 5000), api.ErrFull},
		{make([]api.File, 16), api.ErrName},
		{[]api.File{{}}, api.ErrName},
		{[]api.File{{Name: "a b"}}, api.ErrName},
		{[]api.File{{Name: "a b", B: long}}, api.ErrName},
		{[]api.File{{Name: " "}, {Name: " "}}, api.ErrName},
		{[]api.File{file("a", "x"), file("a", "x")}, api.ErrThere},
		{[]api.File{file("a", ""), file("a", "")}, api.ErrThere},
		{[]api.File{file("a", "x"), {Name: "a", B: long}}, api.ErrThere},
		{[]api.File{{Name: "a", B: long}, {Name: "a"}}, api.ErrLong},
		{[]api.File{{Name: "a", B: long}, {Name: ""}}, api.ErrLong},
		{[]api.File{{Name: "a"}, {Name: ""}, {Name: "a"}, {Name: "b", B: long}}, api.ErrName},
		{[]api.File{{Name: "a"}, {Name: "a"}, {Name: ""}, {Name: "b", B: long}}, api.ErrThere},
		{[]api.File{{Name: "a"}, {Name: "b", B: long}, {Name: ""}, {Name: "a"}}, api.ErrLong},
		{append(slices.Clone(full[:15]), full[0]), api.ErrThere},
		{append(slices.Clone(full[:15]), full[14]), api.ErrThere},
		{append(slices.Clone(full[:15]), file("\x7f", "")), api.ErrName},
		{append(slices.Clone(full[:15]), api.File{Name: "z", B: long}), api.ErrLong},
	} {
		if f, e := files.New(x.l...); f != nil || e != x.want {
			t.Errorf("%d: New = %v, %v; want nil, %v", i, f, e, x.want)
		}
	}
	for _, name := range wrongNames() {
		if f, e := files.New(file("a", ""), file(name, "x"), file("a", "")); f != nil || e != api.ErrName {
			t.Errorf("New with %.80q = %v, %v", name, f, e)
		}
	}
}

// P3.1: Get and Len of names that aren't there, and of what is no name.
func TestAbsent(t *testing.T) {
	f := table(t, file("ab", "x"), file("b", ""))
	for _, name := range append(wrongNames(), "a", "abc", "AB", "ba", "c") {
		absent(t, f, name)
	}
	absent(t, table(t), "a")
}

// P3.2: Put gives a file these bytes alone; one that wasn't there comes behind all.
func TestPut(t *testing.T) {
	f := table(t, file("b", "old and long"), file("a", "x"))
	for _, x := range []struct {
		name, b string
		want    []api.File
	}{
		{"b", "new", []api.File{file("b", "new"), file("a", "x")}},
		{"b", "longer than ever", []api.File{file("b", "longer than ever"), file("a", "x")}},
		{"a", "", []api.File{file("b", "longer than ever"), file("a", "")}},
		{"c", "1", []api.File{file("b", "longer than ever"), file("a", ""), file("c", "1")}},
		{"b", "", []api.File{file("b", ""), file("a", ""), file("c", "1")}},
		{"0", "", []api.File{file("b", ""), file("a", ""), file("c", "1"), file("0", "")}},
		{"c", "\x00\n\xff", []api.File{file("b", ""), file("a", ""), file("c", "\x00\n\xff"), file("0", "")}},
	} {
		if e := f.Put(x.name, []byte(x.b)); e != api.OK {
			t.Errorf("Put(%q, %q): %v", x.name, x.b, e)
		}
		check(t, f, x.want...)
	}
	if e := f.Put("n", nil); e != api.OK || f.Len("n") != 0 {
		t.Errorf("Put of nil: %v, %d bytes", e, f.Len("n"))
	}
}

// P3.2: Add writes all pieces, in their order, behind the bytes of a file; one that wasn't there comes behind all.
func TestAdd(t *testing.T) {
	f := table(t, file("b", "one"), file("a", ""))
	for _, x := range []struct {
		name   string
		pieces []string
		want   []api.File
	}{
		{"b", nil, []api.File{file("b", "one"), file("a", "")}},
		{"b", []string{""}, []api.File{file("b", "one"), file("a", "")}},
		{"b", []string{"2"}, []api.File{file("b", "one2"), file("a", "")}},
		{"b", []string{"3", "", "45", "", "6"}, []api.File{file("b", "one23456"), file("a", "")}},
		{"a", []string{"\n", "\x00"}, []api.File{file("b", "one23456"), file("a", "\n\x00")}},
		{"c", nil, []api.File{file("b", "one23456"), file("a", "\n\x00"), file("c", "")}},
		{"0", []string{"", ""}, []api.File{file("b", "one23456"), file("a", "\n\x00"), file("c", ""), file("0", "")}},
		{"d", []string{"x", "y"}, []api.File{file("b", "one23456"), file("a", "\n\x00"), file("c", ""), file("0", ""), file("d", "xy")}},
		{"a", []string{"z"}, []api.File{file("b", "one23456"), file("a", "\n\x00z"), file("c", ""), file("0", ""), file("d", "xy")}},
	} {
		var pieces [][]byte
		for _, p := range x.pieces {
			pieces = append(pieces, []byte(p))
		}
		if e := f.Add(x.name, pieces...); e != api.OK {
			t.Errorf("Add(%q, %q): %v", x.name, pieces, e)
		}
		check(t, f, x.want...)
	}
	if e := f.Add("a", []byte("p"), nil, []byte("qr")); e != api.OK {
		t.Error(e)
	}
	if b, _ := f.Get("a"); string(b) != "\n\x00zpqr" {
		t.Errorf("with pieces told one by one: %q", b)
	}
}

// P3.2: Add without pieces makes an empty file, if there is none.
func TestAddNoPieces(t *testing.T) {
	f := table(t)
	if e := f.Add("new"); e != api.OK {
		t.Error(e)
	}
	check(t, f, file("new", ""))
	if e := f.Add("new"); e != api.OK {
		t.Error(e)
	}
	check(t, f, file("new", ""))
}

// P3.2: very many pieces.
func TestAddManyPieces(t *testing.T) {
	f := table(t, file("a", "x"))
	if e := f.Add("a", slices.Repeat([][]byte{[]byte("yz"), nil}, 30000)...); e != api.OK {
		t.Error(e)
	}
	check(t, f, file("a", "x"+strings.Repeat("yz", 30000)))
	if e := f.Add("a", make([][]byte, 200000)...); e != api.OK {
		t.Error(e)
	}
	check(t, f, file("a", "x"+strings.Repeat("yz", 30000)))
}

// P3.2: a file may have 65,536 bytes by Put and by Add, and not one more.
func TestLongest(t *testing.T) {
	most := sized(api.MaxText)
	f := table(t)
	if e := f.Put("p", most); e != api.OK {
		t.Error(e)
	}
	if e := f.Add("a", most); e != api.OK {
		t.Error(e)
	}
	if e := f.Add("b", most[:1], most[1:65535], nil, most[65535:]); e != api.OK {
		t.Error(e)
	}
	if e := f.Put("c", most[:65535]); e != api.OK {
		t.Error(e)
	}
	if e := f.Add("c", most[65535:]); e != api.OK {
		t.Error(e)
	}
	all := []api.File{{Name: "p", B: most}, {Name: "a", B: most}, {Name: "b", B: most}, {Name: "c", B: most}}
	check(t, f, all...)
	for _, x := range all {
		if e := f.Add(x.Name, nil, []byte{1}); e != api.ErrLong {
			t.Errorf("Add of one byte more: %v", e)
		}
		if e := f.Add(x.Name, []byte{}); e != api.OK {
			t.Errorf("Add of no byte more: %v", e)
		}
		if e := f.Put(x.Name, sized(api.MaxText+1)); e != api.ErrLong {
			t.Errorf("Put of one byte too many: %v", e)
		}
	}
	check(t, f, all...)
	if e := f.Put("p", []byte("short")); e != api.OK || f.Len("p") != 5 {
		t.Errorf("Put over the longest: %v, %d bytes", e, f.Len("p"))
	}
}

// P3.2: Put and Add look for a wrong name first, then for the length, then for the number of files; nothing is changed by it.
func TestRefusedWriting(t *testing.T) {
	long := sized(api.MaxText + 1)
	half := sized(api.MaxText / 2)
	full := some(api.MaxFiles)
	less := some(api.MaxFiles - 1)
	for i, x := range []struct {
		l      []api.File
		name   string
		pieces [][]byte
		want   api.Errno
	}{
		{full, "a b", [][]byte{long}, api.ErrName},
		{full, "a b", nil, api.ErrName},
		{less, "", nil, api.ErrName},
		{nil, "\x7f", [][]byte{nil}, api.ErrName},
		{full, "new", [][]byte{long}, api.ErrLong},
		{full, "f3", [][]byte{long}, api.ErrLong},
		{less, "new", [][]byte{long}, api.ErrLong},
		{nil, "new", [][]byte{long}, api.ErrLong},
		{full, "new", nil, api.ErrFull},
		{full, "new", [][]byte{nil}, api.ErrFull},
		{full, "new", [][]byte{[]byte("x")}, api.ErrFull},
		{full, "f1x", [][]byte{sized(api.MaxText)}, api.ErrFull},
		{full, "f3", [][]byte{half, half}, api.ErrLong},
		{less, "new", [][]byte{half, half, nil, []byte("x")}, api.ErrLong},
		{full, "new", [][]byte{half, []byte("x"), half}, api.ErrLong},
		{less, "f0", [][]byte{nil, sized(api.MaxText)}, api.ErrLong},
		{less, "f0", [][]byte{[]byte("x"), long, []byte("x")}, api.ErrLong},
		{less, "new", slices.Repeat([][]byte{long}, 20000), api.ErrLong},
		{less, "new", slices.Repeat([][]byte{[]byte("x")}, api.MaxText+1), api.ErrLong},
	} {
		f := table(t, x.l...)
		if e := f.Add(x.name, x.pieces...); e != x.want {
			t.Errorf("%d: Add(%q) = %v; want %v", i, x.name, e, x.want)
		}
		check(t, f, x.l...)
		if len(x.pieces) > 1 {
			continue
		}
		var b []byte
		if len(x.pieces) == 1 {
			b = x.pieces[0]
		}
		if e := f.Put(x.name, b); e != x.want {
			t.Errorf("%d: Put(%q) = %v; want %v", i, x.name, e, x.want)
		}
		check(t, f, x.l...)
	}
}

// P3.2: Put and Add refuse each name that is none.
func TestWrittenWrongNames(t *testing.T) {
	f := table(t, file("a", "x"))
	for _, name := range wrongNames() {
		if e := f.Put(name, []byte("y")); e != api.ErrName {
			t.Errorf("Put(%.80q) = %v", name, e)
		}
		if e := f.Add(name, []byte("y")); e != api.ErrName {
			t.Errorf("Add(%.80q) = %v", name, e)
		}
		if e := f.Cut(name, 0); e != api.ErrNone {
			t.Errorf("Cut(%.80q) = %v", name, e)
		}
	}
	check(t, f, file("a", "x"))
}

// P3.2: one file more, up to 16; those that are there may be written to still.
func TestUpToFull(t *testing.T) {
	want := some(api.MaxFiles)
	f := table(t)
	for i, x := range want {
		e := api.OK
		if i%2 == 0 {
			e = f.Put(x.Name, x.B)
		} else {
			e = f.Add(x.Name, x.B)
		}
		if e != api.OK {
			t.Errorf("file %d: %v", i, e)
		}
	}
	check(t, f, want...)
	if e := f.Put("new", nil); e != api.ErrFull {
		t.Errorf("Put of the 17th: %v", e)
	}
	if e := f.Add("new"); e != api.ErrFull {
		t.Errorf("Add of the 17th: %v", e)
	}
	if e := f.Cut("new", 0); e != api.ErrNone {
		t.Errorf("Cut of the 17th: %v", e)
	}
	check(t, f, want...)
	if e := f.Put("f15", []byte("y")); e != api.OK {
		t.Errorf("Put of the last: %v", e)
	}
	if e := f.Add("f0", []byte("y")); e != api.OK {
		t.Errorf("Add to the first: %v", e)
	}
	want[15], want[0] = file("f15", "y"), file("f0", "xy")
	check(t, f, want...)
}

// P3.2: Cut to every length from 0 to the whole; it refuses what is outside and changes nothing then.
func TestCut(t *testing.T) {
	const s = "a\nbc\x00\xff\n"
	for n := range len(s) + 1 {
		f := table(t, file("z", s), file("a", s))
		if e := f.Cut("a", n); e != api.OK {
			t.Errorf("Cut to %d: %v", n, e)
		}
		check(t, f, file("z", s), file("a", s[:n]))
		for _, out := range []int{n + 1, n + 2, len(s) + 1, math.MaxInt, -1, -2, math.MinInt} {
			if e := f.Cut("a", out); e != api.ErrRange {
				t.Errorf("of %d bytes Cut to %d: %v", n, out, e)
			}
		}
		check(t, f, file("z", s), file("a", s[:n]))
		if e := f.Cut("a", n); e != api.OK {
			t.Errorf("of %d bytes Cut to all: %v", n, e)
		}
		check(t, f, file("z", s), file("a", s[:n]))
	}
}

// P3.2: Cut of a file that isn't there is ErrNone, whatever the number.
func TestCutNone(t *testing.T) {
	for _, l := range [][]api.File{nil, {file("a", "xyz")}, some(16)} {
		f := table(t, l...)
		for _, n := range []int{0, 1, 3, -1, math.MinInt, math.MaxInt} {
			for _, name := range []string{"b", "aa", "", "a b"} {
				if e := f.Cut(name, n); e != api.ErrNone {
					t.Errorf("Cut(%q, %d) = %v", name, n, e)
				}
			}
		}
		check(t, f, l...)
	}
}

// P3.2: what was cut off never comes back, by what is added behind it.
func TestCutAndAdd(t *testing.T) {
	f := table(t, file("a", "abcdef"))
	if e := f.Cut("a", 2); e != api.OK {
		t.Error(e)
	}
	if e := f.Add("a", []byte("X")); e != api.OK {
		t.Error(e)
	}
	check(t, f, file("a", "abX"))
	if e := f.Cut("a", 0); e != api.OK {
		t.Error(e)
	}
	check(t, f, file("a", ""))
	if e := f.Add("a", sized(api.MaxText)); e != api.OK {
		t.Errorf("Add to a file that was cut to none: %v", e)
	}
	check(t, f, api.File{Name: "a", B: sized(api.MaxText)})
}

// P3.3: from any length on, what was added, in whatever pieces, is gone again behind a cut.
func TestAddedAndCut(t *testing.T) {
	added := [][][]byte{nil, {nil}, {[]byte("x")}, {[]byte("\n"), nil, []byte("yz\x00")}, {sized(300), sized(7)}, {sized(65536 - 1000)}}
	for _, was := range []int{0, 1, 2, 63, 1000} {
		f := table(t, file("z", "z"), api.File{Name: "a", B: sized(was)})
		for _, pieces := range added {
			n := f.Len("a")
			if e := f.Add("a", pieces...); e != api.OK {
				t.Errorf("Add to %d bytes: %v", was, e)
			}
			if e := f.Cut("a", n); e != api.OK {
				t.Errorf("Cut to %d: %v", n, e)
			}
			check(t, f, file("z", "z"), api.File{Name: "a", B: sized(was)})
		}
	}
}

// P3.3: adds behind one another are taken back one by one, from the last on.
func TestAddedAndCutOneByOne(t *testing.T) {
	f := table(t)
	if e := f.Add("a"); e != api.OK {
		t.Error(e)
	}
	var texts []string
	text := ""
	for i := range 30 {
		texts = append(texts, text)
		p := strings.Repeat(strconv.Itoa(i)+"\n", i%5)
		if e := f.Add("a", []byte(p), []byte("-")); e != api.OK {
			t.Error(e)
		}
		text += p + "-"
	}
	for _, want := range slices.Backward(texts) {
		if e := f.Cut("a", len(want)); e != api.OK {
			t.Error(e)
		}
		check(t, f, file("a", want))
	}
}

// model is a table told by the words of the chapter alone, for files that are short.
type model []api.File

func (m model) clone() model {
	var c model
	for _, f := range m {
		c = append(c, file(f.Name, string(f.B)))
	}
	return c
}

// write gives the file the bytes that become makes of those that it has.
func (m *model) write(name string, become func(string) string) api.Errno {
	if name == "" || strings.Contains(name, " ") {
		return api.ErrName
	}
	for i, f := range *m {
		if f.Name == name {
			(*m)[i].B = []byte(become(string(f.B)))
			return api.OK
		}
	}
	if len(*m) == 16 {
		return api.ErrFull
	}
	*m = append(*m, file(name, become("")))
	return api.OK
}

func (m model) cut(name string, n int) api.Errno {
	for i, f := range m {
		if f.Name != name {
			continue
		}
		if n < 0 || n > len(f.B) {
			return api.ErrRange
		}
		m[i].B = f.B[:n]
		return api.OK
	}
	return api.ErrNone
}

// deed is one call, on a table and on a model.
type deed struct {
	told  string
	table func(f *files.Table) api.Errno
	model func(m *model) api.Errno
}

func put(name, b string) deed {
	return deed{"Put " + name + " " + b,
		func(f *files.Table) api.Errno { return f.Put(name, []byte(b)) },
		func(m *model) api.Errno { return m.write(name, func(string) string { return b }) }}
}

func add(name string, pieces ...string) deed {
	return deed{"Add " + name + " " + strings.Join(pieces, "|"),
		func(f *files.Table) api.Errno {
			var l [][]byte
			for _, p := range pieces {
				l = append(l, []byte(p))
			}
			return f.Add(name, l...)
		},
		func(m *model) api.Errno {
			return m.write(name, func(s string) string { return s + strings.Join(pieces, "") })
		}}
}

func cut(name string, n int) deed {
	return deed{"Cut " + name + " " + strconv.Itoa(n),
		func(f *files.Table) api.Errno { return f.Cut(name, n) },
		func(m *model) api.Errno { return m.cut(name, n) }}
}

// tree does every row of so many deeds; each goes on with a copy, so that copies are seen to go on by themselves.
func tree(t *testing.T, f *files.Table, m model, deeds []deed, left int, behind string) {
	if left == 0 || t.Failed() {
		return
	}
	for _, d := range deeds {
		g, n := f.Copy(), m.clone()
		told := behind + "; " + d.told
		if e, want := d.table(g), d.model(&n); e != want {
			t.Errorf("%s: %v; want %v", told, e, want)
		}
		check(t, g, n...)
		tree(t, g, n, deeds, left-1, told)
		check(t, g, n...)
		if t.Failed() {
			t.Fatalf("behind %s", told)
		}
	}
	check(t, f, m...)
}

// P3.1, P3.2, P3.3: every row of up to four calls on a table that is empty, and on one that is nearly full, held against a model.
func TestEveryRowOfCalls(t *testing.T) {
	deeds := []deed{put("a", ""), put("a", "pq"), put("b", "r"), put("", "x"), add("a"), add("a", "s", "", "tu"), add("b", "v"), add("a b", "w"), cut("a", 0), cut("a", 2), cut("a", -1), cut("b", 1)}
	tree(t, table(t), nil, deeds, 4, "empty")
	l := some(15)
	tree(t, table(t, l...), model(l), deeds, 3, "nearly full")
}

// P3.1: a copy and what it was copied from go on by themselves.
func TestCopy(t *testing.T) {
	f := table(t, file("a", "abc"), file("b", ""))
	c := f.Copy()
	check(t, c, file("a", "abc"), file("b", ""))
	f.Put("a", []byte("x"))
	f.Add("b", []byte("y"))
	f.Add("n")
	check(t, c, file("a", "abc"), file("b", ""))
	absent(t, c, "n")
	c.Add("a", []byte("!"))
	c.Cut("a", 1)
	c.Add("a", []byte("?"))
	c.Put("m", nil)
	check(t, f, file("a", "x"), file("b", "y"), file("n", ""))
	absent(t, f, "m")
	check(t, c, file("a", "a?"), file("b", ""), file("m", ""))
}

// P3.1: copies of one table that add to one file, cut ahead of that, keep to themselves.
func TestCopiesShareNoRoom(t *testing.T) {
	f := table(t)
	for range 9 {
		f.Add("a", []byte("abc"))
	}
	f.Cut("a", 1)
	c, d := f.Copy(), f.Copy()
	f.Add("a", []byte("f"))
	c.Add("a", []byte("c"))
	d.Add("a", []byte("d"))
	check(t, f, file("a", "af"))
	check(t, c, file("a", "ac"))
	check(t, d, file("a", "ad"))
	check(t, table(t).Copy())
}

// R4: what was handed in may be written over: the table keeps what it was given, and changes none of it.
func TestArgumentsAreNotKept(t *testing.T) {
	l := []api.File{file("a", "one"), file("b", "two")}
	f := table(t, l...)
	l[0].B[0], l[1] = '#', file("z", "zzz")
	check(t, f, file("a", "one"), file("b", "two"))

	b := []byte("put")
	f.Put("a", b)
	p := [][]byte{[]byte("p"), []byte("q")}
	f.Add("b", p...)
	f.Add("c", p[0])
	if string(b) != "put" || string(p[0]) != "p" || string(p[1]) != "q" || len(p) != 2 {
		t.Errorf("arguments became %q, %q", b, p)
	}
	b[0], p[0][0], p[1] = '#', '#', []byte("##")
	check(t, f, file("a", "put"), file("b", "twopq"), file("c", "p"))
	f.Add("c", []byte("!"))
	f.Cut("a", 0)
	f.Add("a", []byte("PUT"))
	if string(b) != "#ut" || string(p[0]) != "#" {
		t.Errorf("arguments became %q, %q", b, p)
	}
}

// R4: what lies behind a list's length in its memory is neither read nor written.
func TestNothingBehindTheLength(t *testing.T) {
	whole := []byte("abcdef")
	l := []api.File{{Name: "a", B: whole[:2]}, {Name: "a b", B: whole[:1]}}
	f := table(t, l[:1]...)
	f.Add("a", []byte("X"))
	f.Put("b", whole[:3])
	f.Add("b", []byte("Y"))
	pieces := [][]byte{whole[:1], whole[5:6], []byte("Z")}
	f.Add("c", pieces[:2]...)
	f.Add("c", []byte("W"))
	check(t, f, file("a", "abX"), file("b", "abcY"), file("c", "afW"))
	if string(whole) != "abcdef" || string(pieces[2]) != "Z" || l[1].Name != "a b" || string(l[1].B) != "a" {
		t.Errorf("what was handed in became %q, %q,%s", whole, pieces, told(l...))
	}
}

// R4: whoever asked may write over an answer, and add to it: the table and other answers stay.
func TestAnswersAreNewMemory(t *testing.T) {
	want := []api.File{file("a", "abc"), file("b", ""), file("c", "x")}
	f := table(t, want...)
	f.Add("a", []byte("defghi"))
	f.Cut("a", 3)
	c := f.Copy()
	one, two := f.All(), f.All()
	b, _ := f.Get("a")
	for i := range one {
		_ = append(one[i].B, "####"...)
		for j := range one[i].B {
			one[i].B[j] = '#'
		}
		if !slices.EqualFunc(one[i+1:], want[i+1:], same) {
			t.Errorf("behind file %d, written over, stand%s", i, told(one[i+1:]...))
		}
		one[i].Name = "z"
	}
	if string(b) != "abc" || !slices.EqualFunc(two, want, same) {
		t.Errorf("other answers became %q,%s", b, told(two...))
	}
	_ = append(b, "####"...)
	b[0] = '!'
	check(t, f, want...)
	check(t, c, want...)
	if string(two[0].B) != "abc" {
		t.Errorf("another answer became %q", two[0].B)
	}
}

// R4: what was answered keeps to itself, whatever becomes of the table.
func TestAnswersKeepToThemselves(t *testing.T) {
	f := table(t, file("a", "abc"), file("b", "d"))
	all := f.All()
	b, _ := f.Get("a")
	f.Cut("a", 0)
	f.Add("a", []byte("xyz"))
	f.Put("b", []byte("w"))
	f.Put("c", nil)
	if string(b) != "abc" || !slices.EqualFunc(all, []api.File{file("a", "abc"), file("b", "d")}, same) {
		t.Errorf("answers became %q,%s", b, told(all...))
	}
}

// P3.2: what a table itself told may be added to it again.
func TestAddOfItself(t *testing.T) {
	f := table(t, file("a", "ab"), file("b", "c"))
	a, _ := f.Get("a")
	if e := f.Add("a", a, a); e != api.OK {
		t.Error(e)
	}
	all := f.All()
	if e := f.Add("b", all[0].B, all[1].B); e != api.OK {
		t.Error(e)
	}
	check(t, f, file("a", "ababab"), file("b", "cabababc"))
}

// R6: the same call has the same answer, each time, and asking changes nothing.
func TestOneAnswer(t *testing.T) {
	want := []api.File{file("b", "1"), file("a", ""), file("c", "3")}
	f := table(t, want...)
	for range 3 {
		check(t, f, want...)
		absent(t, f, "d")
		check(t, f.Copy(), want...)
		if e := f.Cut("b", 2); e != api.ErrRange {
			t.Error(e)
		}
	}
}
