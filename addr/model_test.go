package addr_test

import (
	"math"
	"strconv"
	"strings"

	"palinode/addr"
	"palinode/api"
)

// numbers are a row of numbers that is the same each time, and seems to have no order.
type numbers uint64

// Intn tells the next number, from 0 to n - 1.
func (x *numbers) Intn(n int) int {
	*x = *x*6364136223846793005 + 1442695040888963407
	return int(*x>>33) % n
}

func line(n int) api.Addr { return api.Addr{Kind: api.ALine, N: n} }

func re(n int) api.Addr { return api.Addr{Kind: api.ARe, Re: n} }

var (
	none = api.Addr{}
	last = api.Addr{Kind: api.ALast}
)

// someInts are numbers about each bound that the chapter knows, and the outermost ones.
func someInts() []int {
	return []int{
		math.MinInt, math.MinInt + 1, -api.MaxNumber, -3, -2, -1, 0, 1, 2, 3, 4, 5,
		api.MaxNumber - 1, api.MaxNumber, api.MaxNumber + 1, math.MaxInt - 1, math.MaxInt,
	}
}

// noKinds are the kinds that are none.
func noKinds() []int { return []int{math.MinInt, -2, -1, 4, 5, 64, 256, 1 << 32, math.MaxInt} }

// finder tells what it is to tell of each regular expression, and keeps of which it was asked.
type finder struct {
	found map[int]bool
	e     map[int]api.Errno
	asked []string
}

func (f *finder) find(n int) (bool, api.Errno) {
	f.asked = append(f.asked, strconv.Itoa(n))
	return f.found[n], f.e[n]
}

// look makes a look that asks f; of one that is nil it has no Find.
func look(n int, isLast bool, f *finder) addr.Look {
	if f == nil {
		return addr.Look{Line: n, Last: isLast}
	}
	return addr.Look{Line: n, Last: isLast, Find: f.find}
}

// told is what a call told: its answers, and of which regular expressions Find was asked.
func told(f *finder, e api.Errno, answers ...bool) string {
	var row []string
	for _, is := range answers {
		row = append(row, strconv.FormatBool(is))
	}
	row = append(row, strconv.Itoa(int(e)))
	if f != nil {
		row = append(row, f.asked...)
	}
	return strings.Join(row, " ")
}

// holds does Holds, and tells it as a row.
func holds(a api.Addr, n int, isLast bool, f *finder) string {
	is, e := addr.Holds(a, look(n, isLast, f))
	return told(f, e, is)
}

// selects does Select, and tells it as a row.
func selects(one, two api.Addr, active bool, n int, isLast bool, f *finder) string {
	is, on, e := addr.Select(one, two, active, look(n, isLast, f))
	return told(f, e, is, on)
}

// again is a finder that tells what f tells, and was asked of nothing.
func again(f *finder) *finder {
	if f == nil {
		return nil
	}
	return &finder{found: f.found, e: f.e}
}

// model tells by the chapter's words: its answer is a row, and f keeps of which it was asked.
type model struct {
	n      int
	isLast bool
	f      *finder
}

// held tells whether a holds, by a list of all that holds of the look.
func (m model) held(a api.Addr) (bool, api.Errno) {
	all := map[int]bool{api.ANone: true, api.ALine: a.N == m.n, api.ALast: m.isLast, api.ARe: false}
	is, known := all[a.Kind]
	if !known {
		return false, api.ErrArg
	}
	if a.Kind != api.ARe || m.f == nil {
		return is, api.OK
	}
	is, e := m.f.find(a.Re)
	if e != api.OK {
		return false, e
	}
	return is, api.OK
}

func (m model) holds(a api.Addr) string {
	is, e := m.held(a)
	return told(m.f, e, is)
}

// known tells whether it is a kind of an address.
func known(kind int) bool { return kind == 0 || kind == 1 || kind == 2 || kind == 3 }

// selects goes through the list of the promise from its first line to its last one.
func (m model) selects(one, two api.Addr, active bool) string {
	if !known(one.Kind) || !known(two.Kind) {
		return told(m.f, api.ErrArg, false, false)
	}
	atMost := two.Kind == api.ALine && two.N <= m.n
	if two.Kind == api.ANone {
		is, e := m.held(one)
		return told(m.f, e, is, false)
	}
	if active {
		is, e := m.held(two)
		if e != api.OK {
			return told(m.f, e, false, false)
		}
		if two.Kind == api.ALine {
			is = atMost
		}
		return told(m.f, api.OK, true, !is)
	}
	is, e := m.held(one)
	if e != api.OK || !is {
		return told(m.f, e, false, false)
	}
	return told(m.f, api.OK, true, !atMost && !(two.Kind == api.ALast && m.isLast))
}

// text is what lines one behind the other are: which regular expressions are found in which line.
type text struct {
	lines int
	found map[int]string // of a regular expression: the lines' digits in which it is found
}

// chosen goes from the first line to the last one, hands in at each what on told ahead of it, and tells the digits of the lines that are selected, and behind a + if it is on at the end.
func (t text) chosen(one, two api.Addr) (string, api.Errno) {
	on, row := false, ""
	for n := 1; n <= t.lines; n++ {
		digit := strconv.Itoa(n)
		find := func(re int) (bool, api.Errno) { return strings.Contains(t.found[re], digit), api.OK }
		is, next, e := addr.Select(one, two, on, addr.Look{Line: n, Last: n == t.lines, Find: find})
		if e != api.OK {
			return "", e
		}
		if is {
			row += digit
		}
		on = next
	}
	if on {
		row += "+"
	}
	return row, api.OK
}

// begins tells whether a holds of the line n.
func (t text) begins(a api.Addr, n int) bool {
	switch a.Kind {
	case api.ALine:
		return a.N == n
	case api.ALast:
		return n == t.lines
	case api.ARe:
		return strings.Contains(t.found[a.Re], strconv.Itoa(n))
	}
	return true
}

// end tells the last line of the rows that begin at the line n, and whether it ends there; else it goes on behind all lines.
func (t text) end(two api.Addr, n int) (int, bool) {
	switch two.Kind {
	case api.ALine:
		end := max(n, two.N)
		return min(end, t.lines), end <= t.lines
	case api.ALast:
		return t.lines, true
	}
	for at := n + 1; at <= t.lines; at++ {
		if t.begins(two, at) {
			return at, true
		}
	}
	return t.lines, false
}

// want tells what chosen ought to tell, by whole rows: from each line that begins one to its end, and on behind that.
func (t text) want(one, two api.Addr) string {
	row, on := "", ""
	for n := 1; n <= t.lines; n++ {
		if !t.begins(one, n) {
			continue
		}
		end, ended := n, true
		if two.Kind != api.ANone {
			end, ended = t.end(two, n)
		}
		for ; n < end; n++ {
			row += strconv.Itoa(n)
		}
		row += strconv.Itoa(end)
		if !ended {
			on = "+"
		}
	}
	return row + on
}
