package digit_test

import (
	"bytes"
	"math"
	"strings"
	"testing"

	"palinode/api"
	"palinode/digit"
)

const (
	uppers = "ABCDEFGHIJKLMNOPQRSTUVWXYZ"
	lowers = "abcdefghijklmnopqrstuvwxyz"
	digits = "0123456789"
	puncts = "!\"#$%&'()*+,-./" + ":;<=>?@" + "[\\]^_`" + "{|}~"
	cntrls = "\x00\x01\x02\x03\x04\x05\x06\x07\x08\x09\x0a\x0b\x0c\x0d\x0e\x0f" +
		"\x10\x11\x12\x13\x14\x15\x16\x17\x18\x19\x1a\x1b\x1c\x1d\x1e\x1f\x7f"
)

// P1.1: each class holds its bytes and none of the others.
func TestIsOfEveryByte(t *testing.T) {
	for class, members := range map[string]string{
		"upper":  uppers,
		"lower":  lowers,
		"digit":  digits,
		"alpha":  uppers + lowers,
		"alnum":  uppers + lowers + digits,
		"blank":  " \t",
		"space":  " \t\n\v\f\r",
		"cntrl":  cntrls,
		"graph":  uppers + lowers + digits + puncts,
		"print":  uppers + lowers + digits + puncts + " ",
		"punct":  puncts,
		"xdigit": digits + "ABCDEFabcdef",
	} {
		for c := 0; c < 256; c++ {
			want := strings.IndexByte(members, byte(c)) >= 0
			if in, ok := digit.Is(class, byte(c)); in != want || !ok {
				t.Errorf("Is(%q, %d) = %v, %v; want %v, true", class, c, in, ok, want)
			}
		}
	}
}

// P1.1: a name that is no class's has no byte.
func TestIsOfNoClass(t *testing.T) {
	for _, class := range []string{
		"", "word", "ascii", "Upper", "DIGIT", "digits", "digi", " digit", "digit ", "digit\n", "digit\x00",
		"[:digit:]", ":digit:", "upperlower", "0", "\xff", strings.Repeat("alpha", 1000),
	} {
		for c := 0; c < 256; c++ {
			if in, ok := digit.Is(class, byte(c)); in || ok {
				t.Errorf("Is(%q, %d) = %v, %v; want false, false", class, c, in, ok)
			}
		}
	}
}

type numCase struct {
	s        string
	at, most int
	n, next  int
	e        api.Errno
}

func checkNums(t *testing.T, cases []numCase) {
	t.Helper()
	for _, x := range cases {
		b := []byte(x.s)
		n, next, e := digit.Num(b, x.at, x.most)
		if n != x.n || next != x.next || e != x.e {
			t.Errorf("Num(%.60q, %d, %d) = %d, %d, %d; want %d, %d, %d", x.s, x.at, x.most, n, next, e, x.n, x.next, x.e)
		}
		if string(b) != x.s {
			t.Errorf("Num(%.60q, %d, %d) changed what it was handed", x.s, x.at, x.most)
		}
	}
}

// P1.1: the number of all the digits from a place on, and the place behind them.
func TestNumReadsAllDigits(t *testing.T) {
	checkNums(t, []numCase{
		{s: "a 0042b", at: 2, most: 100, n: 42, next: 6},
		{s: "7", most: 9, n: 7, next: 1},
		{s: "1234567890", most: 1 << 40, n: 1234567890, next: 10},
		{s: "1234567890", at: 4, most: 1 << 40, n: 567890, next: 10},
		{s: "12 34", most: 99, n: 12, next: 2},
		{s: "12/", most: 99, n: 12, next: 2},
		{s: "12:", most: 99, n: 12, next: 2},
		{s: "1-2", most: 99, n: 1, next: 1},
		{s: "1.5", most: 99, n: 1, next: 1},
		{s: "1_000", most: 9999, n: 1, next: 1},
		{s: "0x1f", most: 99, n: 0, next: 1},
		{s: "\xff9\xff", at: 1, most: 9, n: 9, next: 2},
		{s: "5\x00", most: 9, n: 5, next: 1},
	})
}

// P1.1: noughts ahead are let, however many, and count for nothing against most.
func TestNumLetsNoughtsAhead(t *testing.T) {
	many := strings.Repeat("0", 5000)
	checkNums(t, []numCase{
		{s: "0", most: 9, n: 0, next: 1},
		{s: "0", most: 0, n: 0, next: 1},
		{s: "000", most: 0, n: 0, next: 3},
		{s: "007", most: 7, n: 7, next: 3},
		{s: "008", most: 7, e: api.ErrRange},
		{s: many, most: 0, n: 0, next: 5000},
		{s: many + "12", most: 12, n: 12, next: 5002},
		{s: many + "12", most: 11, e: api.ErrRange},
		{s: many + "9223372036854775807x", most: math.MaxInt, n: math.MaxInt, next: 5019},
	})
}

// P1.1: ErrArg of a place that is below 0 or above how many bytes there are, ahead of all else.
func TestNumOfPlacesOutside(t *testing.T) {
	for _, most := range []int{99, 0, -1, math.MinInt, math.MaxInt} {
		checkNums(t, []numCase{
			{s: "12", at: -1, most: most, e: api.ErrArg},
			{s: "12", at: math.MinInt, most: most, e: api.ErrArg},
			{s: "12", at: 3, most: most, e: api.ErrArg},
			{s: "12", at: math.MaxInt, most: most, e: api.ErrArg},
			{s: "", at: 1, most: most, e: api.ErrArg},
			{s: "", at: -1, most: most, e: api.ErrArg},
		})
		if n, next, e := digit.Num(nil, 1, most); n != 0 || next != 0 || e != api.ErrArg {
			t.Errorf("Num(nil, 1, %d) = %d, %d, %d", most, n, next, e)
		}
	}
}

// P1.1: ErrForm where no digit is, the end among such places, ahead of ErrRange.
func TestNumWhereNoDigitIs(t *testing.T) {
	for _, most := range []int{99, 0, -1, math.MinInt, math.MaxInt} {
		checkNums(t, []numCase{
			{s: "12", at: 2, most: most, e: api.ErrForm},
			{s: "", at: 0, most: most, e: api.ErrForm},
			{s: "a1", at: 0, most: most, e: api.ErrForm},
			{s: "-1", at: 0, most: most, e: api.ErrForm},
			{s: "+1", at: 0, most: most, e: api.ErrForm},
			{s: " 1", at: 0, most: most, e: api.ErrForm},
			{s: "1 2", at: 1, most: most, e: api.ErrForm},
		})
		if n, next, e := digit.Num(nil, 0, most); n != 0 || next != 0 || e != api.ErrForm {
			t.Errorf("Num(nil, 0, %d) = %d, %d, %d", most, n, next, e)
		}
	}
	for c := 0; c < 256; c++ {
		_, _, e := digit.Num([]byte{byte(c)}, 0, 9)
		if isDigit := c >= '0' && c <= '9'; (e == api.OK) != isDigit {
			t.Errorf("Num of the byte %d: error %d", c, e)
		}
	}
}

// P1.1: ErrRange of a number above most, however great it is, and none of a number that is most.
func TestNumAgainstMost(t *testing.T) {
	checkNums(t, []numCase{
		{s: "12", most: 12, n: 12, next: 2},
		{s: "12", most: 11, e: api.ErrRange},
		{s: "9", most: 9, n: 9, next: 1},
		{s: "10", most: 9, e: api.ErrRange},
		{s: "19", most: 20, n: 19, next: 2},
		{s: "20", most: 19, e: api.ErrRange},
		{s: "255", most: 255, n: 255, next: 3},
		{s: "256", most: 255, e: api.ErrRange},
		{s: "2147483648", most: api.MaxNumber, n: api.MaxNumber, next: 10},
		{s: "2147483649", most: api.MaxNumber, e: api.ErrRange},
		{s: "1", most: 0, e: api.ErrRange},
		{s: "0", most: -1, e: api.ErrRange},
		{s: "5", most: -1, e: api.ErrRange},
		{s: "0", most: math.MinInt, e: api.ErrRange},
		{s: "9", most: math.MinInt, e: api.ErrRange},
		{s: "9223372036854775807", most: math.MaxInt, n: math.MaxInt, next: 19},
		{s: "9223372036854775806", most: math.MaxInt, n: math.MaxInt - 1, next: 19},
		{s: "9223372036854775807", most: math.MaxInt - 1, e: api.ErrRange},
		{s: "9223372036854775808", most: math.MaxInt, e: api.ErrRange},
		{s: "9223372036854775810", most: math.MaxInt, e: api.ErrRange},
		{s: "18446744073709551615", most: math.MaxInt, e: api.ErrRange},
		// Gone round, this one would be 5.
		{s: "18446744073709551621", most: 9, e: api.ErrRange},
		{s: strings.Repeat("9", 5000), most: math.MaxInt, e: api.ErrRange},
		{s: "1" + strings.Repeat("0", 5000), most: math.MaxInt, e: api.ErrRange},
	})
}

// P1.1, R4: what stands behind a list's length in its memory is not read.
func TestNumReadsNotBeyondTheLength(t *testing.T) {
	whole := []byte("12345")
	if n, next, e := digit.Num(whole[:2], 0, 99999); n != 12 || next != 2 || e != api.OK {
		t.Errorf("Num = %d, %d, %d; want 12, 2, 0", n, next, e)
	}
	if n, next, e := digit.Num(whole[:2], 2, 99999); n != 0 || next != 0 || e != api.ErrForm {
		t.Errorf("Num at the end = %d, %d, %d; want ErrForm", n, next, e)
	}
	if n, next, e := digit.Num(whole[:2], 3, 99999); n != 0 || next != 0 || e != api.ErrArg {
		t.Errorf("Num beyond the end = %d, %d, %d; want ErrArg", n, next, e)
	}
	if !bytes.Equal(whole, []byte("12345")) {
		t.Errorf("Num changed what it was handed: %q", whole)
	}
}

// P1.2: Text tells the digits without noughts ahead, behind a - if the number is below 0.
func TestText(t *testing.T) {
	for n, want := range map[int]string{
		0:               "0",
		1:               "1",
		9:               "9",
		10:              "10",
		100:             "100",
		1234567890:      "1234567890",
		-1:              "-1",
		-9:              "-9",
		-10:             "-10",
		-40:             "-40",
		1 << 31:         "2147483648",
		1 << 32:         "4294967296",
		-1 << 31:        "-2147483648",
		math.MaxInt:     "9223372036854775807",
		math.MaxInt - 1: "9223372036854775806",
		math.MinInt:     "-9223372036854775808",
		math.MinInt + 1: "-9223372036854775807",
	} {
		if got := digit.Text(n); got != want {
			t.Errorf("Text(%d) = %q; want %q", n, got, want)
		}
	}
}

// P1.2: Join tells the texts of all, with sep between two and nowhere else.
func TestJoin(t *testing.T) {
	for _, x := range []struct {
		sep  string
		l    []int
		want string
	}{
		{"-", []int{1, 20, -3}, "1-20--3"},
		{",", nil, ""},
		{",", []int{}, ""},
		{",", []int{5}, "5"},
		{", ", []int{5, -6}, "5, -6"},
		{"", []int{1, 2, 3}, "123"},
		{"", nil, ""},
		{" ", []int{0, 0, 0}, "0 0 0"},
		{"7", []int{7, 7}, "777"},
		{"\x00\xff\n", []int{1, 2}, "1\x00\xff\n2"},
		{" ", []int{math.MinInt, math.MaxInt}, "-9223372036854775808 9223372036854775807"},
	} {
		if got := digit.Join(x.sep, x.l...); got != x.want {
			t.Errorf("Join(%q, %v) = %q; want %q", x.sep, x.l, got, x.want)
		}
	}
	if got := digit.Join("-", 1, 20, -3); got != "1-20--3" {
		t.Errorf("Join of numbers told one by one = %q", got)
	}
}

// P1.2, R4: Join takes as many numbers as one likes, changes none, and reads none behind the list's length.
func TestJoinOfLongLists(t *testing.T) {
	l := make([]int, 10000)
	var want strings.Builder
	for i := range l {
		l[i] = i%10 - 5
		if i > 0 {
			want.WriteByte(',')
		}
		want.WriteString([]string{"-5", "-4", "-3", "-2", "-1", "0", "1", "2", "3", "4"}[i%10])
	}
	if digit.Join(",", l...) != want.String() {
		t.Error("Join of 10,000 numbers is not their texts")
	}
	for i, n := range l {
		if n != i%10-5 {
			t.Fatalf("Join changed the number at the place %d", i)
		}
	}
	if got := digit.Join(",", l[:2]...); got != "-5,-4" {
		t.Errorf("Join of two of them = %q", got)
	}
}

// someNumbers tells numbers of every length, those beside each power of 2 and of 10 among them.
func someNumbers() []int {
	l := []int{math.MaxInt, math.MaxInt - 1}
	for n := 0; n < 2000; n++ {
		l = append(l, n)
	}
	for p := 1; ; p *= 10 {
		l = append(l, p-1, p, p+1)
		if p > math.MaxInt/10 {
			break
		}
	}
	for i := 0; i < 63; i++ {
		l = append(l, 1<<i-1, 1<<i, 1<<i+1)
	}
	return l
}

// P1.3: what Text writes of a number that isn't below 0, Num reads, whatever stands around it.
func TestNumReadsWhatTextWrites(t *testing.T) {
	for _, n := range someNumbers() {
		text := digit.Text(n)
		for _, behind := range []string{"", "x", " 1", "\n", "/", ":"} {
			b := []byte("12ab" + text + behind)
			got, next, e := digit.Num(b, 4, n)
			if got != n || next != 4+len(text) || e != api.OK {
				t.Errorf("Num(%q, 4, %d) = %d, %d, %d", b, n, got, next, e)
			}
			if got, next, e := digit.Num(b, 4, n-1); got != 0 || next != 0 || e != api.ErrRange {
				t.Errorf("Num(%q, 4, %d) = %d, %d, %d; want ErrRange", b, n-1, got, next, e)
			}
		}
	}
}

// P1.3: of what Join writes, too, each number is read where the one ahead of it ended.
func TestNumReadsWhatJoinWrites(t *testing.T) {
	l := someNumbers()
	b := []byte(digit.Join(",", l...))
	at := 0
	for i, want := range l {
		n, next, e := digit.Num(b, at, math.MaxInt)
		if n != want || e != api.OK {
			t.Fatalf("number %d at the place %d: %d, error %d; want %d", i, at, n, e, want)
		}
		at = next + 1
	}
	if at != len(b)+1 {
		t.Errorf("behind all numbers stands the place %d; want %d", at, len(b)+1)
	}
}
