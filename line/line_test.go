package line_test

import (
	"bytes"
	"math"
	"slices"
	"testing"

	"linnet/api"
	"linnet/line"
)

const blanks = " \t"

var both = []bool{false, true}

// wide are numbers that are far from all that may be, those among them that would be near if they were cut to fewer bits.
var wide = []int{
	-2, -3, -10, -12, -255, -256, -256 + 10, -4095, -4096, -4097, -65536, -65536 + 10,
	4098, 8192, 65535, 65536, 65537, 65536 + 10, 65536 + 30,
	1<<31 - 1, 1 << 31, 1<<31 + 1, 1<<31 + 10, -1 << 31, -1<<31 + 1, -1<<31 + 10,
	1 << 32, 1<<32 + 1, 1<<32 + 2, 1<<32 + 10, 1<<32 + 11, 1<<32 + 30, -1 << 32, -1<<32 + 1, -1<<32 + 10,
	math.MaxInt, math.MaxInt - 1, math.MinInt, math.MinInt + 1, math.MinInt + 10,
}

// functions are those that do something to a line.
var functions = []int{api.EcF, api.EcrF, api.EwF, api.EwrF, api.EbolF, api.EeolF, api.ElF, api.McLF, api.McRF, api.McWlF, api.McWrF, api.McBolF, api.McEolF}

func lineOf(s string, at int) api.Line {
	return api.Line{B: []byte(s), At: at}
}

// chance is octets that a seed makes, of some that are given.
func chance(seed, n int, some string) []byte {
	x := uint32(seed)*2654435761 + 12345
	b := make([]byte, n)
	for i := range b {
		x = x*1664525 + 1013904223
		b[i] = some[int(x>>16)%len(some)]
	}
	return b
}

// short are all lines of up to five octets out of two that are no blanks and both blanks, At at each place.
func short() []api.Line {
	all := [][]byte{nil}
	for from := 0; len(all[from]) < 5; from++ {
		for _, c := range []byte("ab" + blanks) {
			all = append(all, append(slices.Clone(all[from]), c))
		}
	}
	var l []api.Line
	for _, b := range all {
		for at := 0; at <= len(b); at++ {
			l = append(l, api.Line{B: b, At: at})
		}
	}
	return l
}

// words are lines of words and blanks, with octets of all kinds in the words, At at each place.
func words() []api.Line {
	var l []api.Line
	for _, s := range []string{
		"ab  cd", "ab  cd ", " ab", "\tab\t", "ab \tcd\t ef", "    ", "\t\t \t", "abcdef", "one, two;\tthree  four",
		"a\nb\rc\vd\fe", "\x00 \x01", "\xa0\x85 \xe2\x80\x83", "\x1f \x21\x08\t\x0a", "\xff\xfe \xfd", "\xc4\xa0\xc4\x89",
	} {
		for at := 0; at <= len(s); at++ {
			l = append(l, lineOf(s, at))
		}
	}
	return l
}

// long are lines of as many octets as there may be, or nearly, with At at their edges and within.
func long() []api.Line {
	var l []api.Line
	for _, n := range []int{255, 256, 257, 4094, 4095, 4096} {
		for _, b := range [][]byte{make([]byte, n), bytes.Repeat([]byte{32}, n), bytes.Repeat([]byte{9}, n), chance(n, n, "abcdefg \t"), chance(n, n, "ab\x00 \t"), append(bytes.Repeat([]byte{32}, n/2), make([]byte, n-n/2)...), append(make([]byte, n/2), bytes.Repeat([]byte{9}, n-n/2)...)} {
			for _, at := range []int{0, 1, 2, n/2 - 1, n / 2, n/2 + 1, n - 2, n - 1, n} {
				l = append(l, api.Line{B: b, At: at})
			}
		}
	}
	return l
}

func right() []api.Line {
	return slices.Concat([]api.Line{{}, {B: []byte{}}}, short(), words(), long())
}

// wrong are lines that may not be: by At, by how many octets there are, by both.
func wrong() []api.Line {
	var l []api.Line
	for _, b := range [][]byte{nil, {}, {7}, []byte("ab cd"), make([]byte, 4095), make([]byte, 4096)} {
		for _, at := range append([]int{-1, len(b) + 1, len(b) + 2}, wide...) {
			if at < 0 || at > len(b) {
				l = append(l, api.Line{B: b, At: at})
			}
		}
	}
	for _, n := range []int{4097, 4098, 8192, 65536, 65537} {
		for _, at := range append([]int{-1, 0, 1, 2, 4095, 4096, 4097, n - 1, n, n + 1}, wide...) {
			l = append(l, api.Line{B: bytes.Repeat([]byte{'x', ' '}, n)[:n], At: at})
		}
	}
	return l
}

// backByRule is the place a word back: without the blanks at the end of what is ahead, what stands behind the last blank is the word.
func backByRule(l api.Line) int {
	ahead := bytes.TrimRight(l.B[:l.At], blanks)
	return bytes.LastIndexAny(ahead, blanks) + 1
}

// onByRule is the place a word on: from the first blank on, blanks are trimmed off.
func onByRule(l api.Line) int {
	first := bytes.IndexAny(l.B[l.At:], blanks)
	if first < 0 {
		return len(l.B)
	}
	return len(l.B) - len(bytes.TrimLeft(l.B[l.At+first:], blanks))
}

// doByRule is what a function of those that do something does, by what is ahead of At and what is behind.
func doByRule(l api.Line, f int) api.Line {
	ahead, behind, end := l.B[:l.At], l.B[l.At:], len(l.B)
	at := l.At
	switch f {
	case api.EcF:
		ahead = ahead[:max(0, len(ahead)-1)]
	case api.EcrF:
		behind = behind[min(1, len(behind)):]
	case api.EwF:
		ahead = ahead[:backByRule(l)]
	case api.EwrF:
		behind = l.B[onByRule(l):]
	case api.EbolF:
		ahead = nil
	case api.EeolF:
		behind = nil
	case api.ElF:
		ahead, behind = nil, nil
	case api.McLF:
		at = max(0, at-1)
	case api.McRF:
		at = min(end, at+1)
	case api.McWlF:
		at = backByRule(l)
	case api.McWrF:
		at = onByRule(l)
	case api.McBolF:
		at = 0
	case api.McEolF:
		at = end
	}
	if len(ahead) < l.At {
		at = len(ahead)
	}
	return api.Line{B: slices.Concat(ahead, behind), At: at}
}

// typeByRule is what typing comes to, and whether anything comes of it.
func typeByRule(l api.Line, room int, over bool, c byte) (api.Line, bool) {
	switch {
	case over && l.At < len(l.B):
		b := slices.Clone(l.B)
		b[l.At] = c
		return api.Line{B: b, At: l.At + 1}, true
	case len(l.B) >= room || len(l.B) == 4096:
		return l, false
	}
	return api.Line{B: slices.Insert(slices.Clone(l.B), l.At, c), At: l.At + 1}, true
}

// equal holds both parts against each other.
func equal(a, b api.Line) bool {
	return a.At == b.At && bytes.Equal(a.B, b.B)
}

// spared is l with octets of its own, and with memory behind them that is not its.
func spared(l api.Line) api.Line {
	b := append(make([]byte, 0, len(l.B)+2), l.B...)
	l.B = append(b, 201, 202)[:len(l.B)]
	return l
}

// wantSpared looks that what spared made of l is as it was.
func wantSpared(t *testing.T, in, l api.Line) {
	t.Helper()
	if !equal(in, l) || !bytes.Equal(in.B[:len(l.B)+2][len(l.B):], []byte{201, 202}) {
		t.Errorf("%.40q, %d was changed to %.40q, %d", l.B, l.At, in.B, in.At)
	}
}

// wantApart looks that a change of in is not seen in got, and one of got not in in.
func wantApart(t *testing.T, in, got, l api.Line) {
	t.Helper()
	was := api.Line{B: slices.Clone(got.B), At: got.At}
	for i := range got.B {
		got.B[i]++
	}
	more := append(got.B, 91, 92)
	wantSpared(t, in, l)
	for i := range in.B {
		in.B[i] += 7
	}
	in.B = append(in.B, 81, 82)
	for i := range was.B {
		was.B[i]++
	}
	if !equal(got, was) || !bytes.Equal(more, append(was.B, 91, 92)) {
		t.Errorf("what came of %.40q, %d changed with it", l.B, l.At)
	}
}

// wantDone looks what a function does.
func wantDone(t *testing.T, l api.Line, f int, want api.Line, ok bool) {
	t.Helper()
	in := spared(l)
	got, done := line.Do(in, f)
	if !equal(got, want) || done != ok {
		t.Errorf("Do of %d, of %.40q, %d: %.40q, %d, %v; want %.40q, %d, %v", f, l.B, l.At, got.B, got.At, done, want.B, want.At, ok)
	}
	wantSpared(t, in, l)
	wantApart(t, in, got, l)
}

// wantTyped looks what typing does.
func wantTyped(t *testing.T, l api.Line, room int, over bool, c byte, want api.Line, ok bool) {
	t.Helper()
	in := spared(l)
	got, done := line.Type(in, room, over, c)
	if !equal(got, want) || done != ok {
		t.Errorf("Type of %d, room %d, %v, of %.40q, %d: %.40q, %d, %v; want %.40q, %d, %v", c, room, over, l.B, l.At, got.B, got.At, done, want.B, want.At, ok)
	}
	wantSpared(t, in, l)
	wantApart(t, in, got, l)
}

// wantPlaces looks that l may be, and where a word back and a word on are.
func wantPlaces(t *testing.T, l api.Line, back, on int) {
	t.Helper()
	in := spared(l)
	if e := line.Check(in); e != api.OK {
		t.Errorf("Check of %.40q, %d: %d", l.B, l.At, e)
	}
	if n := line.Back(in); n != back {
		t.Errorf("Back of %.40q, %d: %d; want %d", l.B, l.At, n, back)
	}
	if n := line.On(in); n != on {
		t.Errorf("On of %.40q, %d: %d; want %d", l.B, l.At, n, on)
	}
	wantSpared(t, in, l)
}

func wantSame(t *testing.T, a, b api.Line, want bool) {
	t.Helper()
	x, y := spared(a), spared(b)
	if line.Same(x, y) != want || line.Same(y, x) != want {
		t.Errorf("Same of %.40q, %d and %.40q, %d: %v", a.B, a.At, b.B, b.At, !want)
	}
	wantSpared(t, x, a)
	wantSpared(t, y, b)
}

// The chapter's three examples.
func TestExamples(t *testing.T) {
	wantTyped(t, lineOf("ab", 1), 9, false, 'c', lineOf("acb", 2), true)
	wantTyped(t, lineOf("ab", 1), 9, true, 'c', lineOf("ac", 2), true)
	wantPlaces(t, lineOf("ab  cd ", 7), 4, 7)
	wantDone(t, lineOf("ab  cd ", 7), api.EwF, lineOf("ab  ", 4), true)
	wantPlaces(t, lineOf("ab  cd", 0), 0, 4)
}

// P12.1: a word back and a word on, written out by hand for each place.
func TestPlacesByHand(t *testing.T) {
	for _, c := range []struct {
		s        string
		back, on []int
	}{
		{"", []int{0}, []int{0}},
		{"a", []int{0, 0}, []int{1, 1}},
		{" ", []int{0, 0}, []int{1, 1}},
		{"\t", []int{0, 0}, []int{1, 1}},
		{" \t ", []int{0, 0, 0, 0}, []int{3, 3, 3, 3}},
		{"ab", []int{0, 0, 0}, []int{2, 2, 2}},
		{"a b", []int{0, 0, 0, 2}, []int{2, 2, 3, 3}},
		{"a\tb", []int{0, 0, 0, 2}, []int{2, 2, 3, 3}},
		{"ab  cd ", []int{0, 0, 0, 0, 0, 4, 4, 4}, []int{4, 4, 4, 4, 7, 7, 7, 7}},
		{" \tab\t ", []int{0, 0, 0, 2, 2, 2, 2}, []int{2, 2, 6, 6, 6, 6, 6}},
		{"a\n\r\v b", []int{0, 0, 0, 0, 0, 0, 5}, []int{5, 5, 5, 5, 5, 6, 6}},
	} {
		for at := range c.back {
			wantPlaces(t, lineOf(c.s, at), c.back[at], c.on[at])
		}
	}
}

// P12.1: the places by the rule, of many lines that may be.
func TestPlacesByRule(t *testing.T) {
	for _, l := range right() {
		wantPlaces(t, l, backByRule(l), onByRule(l))
	}
}

// P12.1: of all octets 32 and 9 alone are blanks.
func TestBlanks(t *testing.T) {
	for c := range 256 {
		l := api.Line{B: []byte{'a', byte(c), 'b'}, At: 3}
		back, on := 0, 3
		if c == 32 || c == 9 {
			back, on = 2, 2
		}
		wantPlaces(t, l, back, 3)
		l.At = 0
		wantPlaces(t, l, 0, on)
		wantDone(t, api.Line{B: l.B, At: 3}, api.EwF, api.Line{B: l.B[:back], At: back}, true)
		wantDone(t, l, api.EwrF, api.Line{B: l.B[on:]}, true)
	}
}

// P12.1, P12.2: a line that may not be.
func TestWrongLines(t *testing.T) {
	for _, l := range wrong() {
		in := spared(l)
		if e := line.Check(in); e != api.ErrArg {
			t.Errorf("Check of %d octets, %d: %d", len(l.B), l.At, e)
		}
		if back, on := line.Back(in), line.On(in); back != 0 || on != 0 {
			t.Errorf("Back, On of %d octets, %d: %d, %d", len(l.B), l.At, back, on)
		}
		wantSpared(t, in, l)
		for _, f := range append([]int{0, 13, 31, -1}, functions...) {
			wantDone(t, l, f, l, false)
		}
		for _, room := range []int{math.MinInt, 0, 1, 4096, 4097, math.MaxInt} {
			for _, over := range both {
				wantTyped(t, l, room, over, 'x', l, false)
			}
		}
	}
}

// P12.1: two that differ in one octet, in their length or in At alone are not the same.
func TestSame(t *testing.T) {
	some := slices.Concat(right(), wrong())
	for i, a := range some {
		wantSame(t, a, a, true)
		wantSame(t, a, some[(i+1)%len(some)], equal(a, some[(i+1)%len(some)]))
		for _, n := range []int{-1, 1, 1 << 32, math.MinInt} {
			wantSame(t, a, api.Line{B: a.B, At: a.At + n}, false)
		}
		wantSame(t, a, api.Line{B: append(slices.Clone(a.B), 0), At: a.At}, false)
		if len(a.B) == 0 {
			continue
		}
		wantSame(t, a, api.Line{B: a.B[1:], At: a.At}, equal(a, api.Line{B: a.B[1:], At: a.At}))
		for _, place := range []int{0, len(a.B) / 2, len(a.B) - 1} {
			b := slices.Clone(a.B)
			b[place] ^= 1
			wantSame(t, a, api.Line{B: b, At: a.At}, false)
			b[place] ^= 129
			wantSame(t, a, api.Line{B: b, At: a.At}, false)
		}
	}
	for _, at := range []int{0, 1, -1} {
		if !line.Same(api.Line{At: at}, api.Line{B: []byte{}, At: at}) || !line.Same(api.Line{B: []byte{}, At: at}, api.Line{At: at}) {
			t.Errorf("no octets and no list differ, At %d", at)
		}
	}
}

// P12.2: each function, written out by hand.
func TestDoByHand(t *testing.T) {
	for _, c := range []struct {
		s    string
		at   int
		f    int
		want string
		to   int
	}{
		{"abc", 3, api.EcF, "ab", 2}, {"abc", 2, api.EcF, "ac", 1}, {"abc", 1, api.EcF, "bc", 0}, {"abc", 0, api.EcF, "abc", 0}, {"", 0, api.EcF, "", 0},
		{"abc", 0, api.EcrF, "bc", 0}, {"abc", 1, api.EcrF, "ac", 1}, {"abc", 2, api.EcrF, "ab", 2}, {"abc", 3, api.EcrF, "abc", 3}, {"", 0, api.EcrF, "", 0},
		{"ab cd", 5, api.EwF, "ab ", 3}, {"ab cd", 4, api.EwF, "ab d", 3}, {"ab cd", 3, api.EwF, "cd", 0}, {"ab cd", 2, api.EwF, " cd", 0}, {"ab  cd", 3, api.EwF, " cd", 0}, {"ab cd", 0, api.EwF, "ab cd", 0},
		{"ab cd", 0, api.EwrF, "cd", 0}, {"ab cd", 1, api.EwrF, "acd", 1}, {"ab cd", 2, api.EwrF, "abcd", 2}, {"ab  cd", 3, api.EwrF, "ab cd", 3}, {"ab cd", 3, api.EwrF, "ab ", 3}, {"ab cd", 5, api.EwrF, "ab cd", 5},
		{"abc", 0, api.EbolF, "abc", 0}, {"abc", 2, api.EbolF, "c", 0}, {"abc", 3, api.EbolF, "", 0},
		{"abc", 0, api.EeolF, "", 0}, {"abc", 2, api.EeolF, "ab", 2}, {"abc", 3, api.EeolF, "abc", 3},
		{"abc", 0, api.ElF, "", 0}, {"abc", 2, api.ElF, "", 0}, {"abc", 3, api.ElF, "", 0}, {"", 0, api.ElF, "", 0},
		{"abc", 0, api.McLF, "abc", 0}, {"abc", 1, api.McLF, "abc", 0}, {"abc", 3, api.McLF, "abc", 2}, {"", 0, api.McLF, "", 0},
		{"abc", 0, api.McRF, "abc", 1}, {"abc", 2, api.McRF, "abc", 3}, {"abc", 3, api.McRF, "abc", 3}, {"", 0, api.McRF, "", 0},
		{"ab \tc", 5, api.McWlF, "ab \tc", 4}, {"ab \tc", 4, api.McWlF, "ab \tc", 0}, {"ab \tc", 1, api.McWlF, "ab \tc", 0}, {"ab \tc", 0, api.McWlF, "ab \tc", 0},
		{"ab \tc", 0, api.McWrF, "ab \tc", 4}, {"ab \tc", 2, api.McWrF, "ab \tc", 4}, {"ab \tc", 3, api.McWrF, "ab \tc", 4}, {"ab \tc", 4, api.McWrF, "ab \tc", 5}, {"ab \tc", 5, api.McWrF, "ab \tc", 5},
		{"abc", 2, api.McBolF, "abc", 0}, {"abc", 0, api.McBolF, "abc", 0}, {"abc", 2, api.McEolF, "abc", 3}, {"abc", 3, api.McEolF, "abc", 3},
	} {
		wantDone(t, lineOf(c.s, c.at), c.f, lineOf(c.want, c.to), true)
	}
}

// P12.2: each function by the rule, of many lines that may be.
func TestDoByRule(t *testing.T) {
	for _, l := range right() {
		for _, f := range functions {
			wantDone(t, l, f, doByRule(l, f), true)
		}
	}
}

// P12.2: of no other number anything is done.
func TestOtherFunctions(t *testing.T) {
	numbers := slices.Clone(wide)
	for f := -300; f <= 600; f++ {
		numbers = append(numbers, f)
	}
	for _, f := range numbers {
		if slices.Contains(functions, f) {
			continue
		}
		for _, l := range []api.Line{{}, lineOf("ab", 1), lineOf("ab  cd ", 7), lineOf(" x", 0), {B: make([]byte, 4096), At: 9}} {
			wantDone(t, l, f, l, false)
		}
	}
}

// P12.2: typing, written out by hand.
func TestTypeByHand(t *testing.T) {
	for _, c := range []struct {
		s    string
		at   int
		room int
		over bool
		want string
		ok   bool
	}{
		{"", 0, 1, false, "x", true}, {"", 0, 1, true, "x", true}, {"", 0, 0, false, "", false}, {"", 0, 0, true, "", false}, {"", 0, -1, true, "", false},
		{"ab", 0, 3, false, "xab", true}, {"ab", 1, 3, false, "axb", true}, {"ab", 2, 3, false, "abx", true},
		{"ab", 0, 3, true, "xb", true}, {"ab", 1, 3, true, "ax", true}, {"ab", 2, 3, true, "abx", true},
		{"ab", 0, 2, false, "ab", false}, {"ab", 2, 2, false, "ab", false}, {"ab", 0, 2, true, "xb", true}, {"ab", 1, 2, true, "ax", true}, {"ab", 2, 2, true, "ab", false},
		{"ab", 1, 1, false, "ab", false}, {"ab", 1, 1, true, "ax", true}, {"ab", 1, 0, true, "ax", true}, {"ab", 1, math.MinInt, true, "ax", true}, {"ab", 2, 1, true, "ab", false},
		{"ab", 1, math.MinInt, false, "ab", false}, {"ab", 1, math.MaxInt, false, "axb", true}, {"ab", 1, 1 << 32, false, "axb", true}, {"ab", 1, 1<<32 + 1, false, "axb", true},
	} {
		at := c.at
		if c.ok {
			at++
		}
		wantTyped(t, lineOf(c.s, c.at), c.room, c.over, 'x', lineOf(c.want, at), c.ok)
	}
}

// P12.2: typing by the rule, with rooms beside how many octets there are, beside how many there may be, and far from both.
func TestTypeByRule(t *testing.T) {
	for _, l := range right() {
		n := len(l.B)
		for _, room := range []int{math.MinInt, -1, 0, 1, n - 1, n, n + 1, 4095, 4096, 4097, math.MaxInt} {
			for _, over := range both {
				want, ok := typeByRule(l, room, over, 'x')
				wantTyped(t, l, room, over, 'x', want, ok)
			}
		}
	}
	for _, l := range []api.Line{{}, lineOf("ab", 1), lineOf("ab", 2), {B: make([]byte, 4095), At: 4095}, {B: make([]byte, 4096), At: 4095}, {B: make([]byte, 4096), At: 4096}} {
		for _, room := range wide {
			for _, over := range both {
				want, ok := typeByRule(l, room, over, 200)
				wantTyped(t, l, room, over, 200, want, ok)
			}
		}
	}
}

// P12.2: any octet may be typed.
func TestTypeOctets(t *testing.T) {
	for c := range 256 {
		wantTyped(t, api.Line{}, 1, false, byte(c), api.Line{B: []byte{byte(c)}, At: 1}, true)
		wantTyped(t, lineOf("a b", 1), 4, false, byte(c), api.Line{B: []byte{'a', byte(c), ' ', 'b'}, At: 2}, true)
		wantTyped(t, lineOf("a b", 1), 0, true, byte(c), api.Line{B: []byte{'a', byte(c), 'b'}, At: 2}, true)
	}
}

// P12.2: two answers of one line have no part in common either.
func TestAnew(t *testing.T) {
	for _, l := range words() {
		for _, f := range functions {
			a, _ := line.Do(l, f)
			b, _ := line.Do(l, f)
			wantApart(t, spared(a), b, a)
		}
		a, _ := line.Type(l, 99, false, 'x')
		b, _ := line.Type(a, 99, true, 'y')
		was := spared(a)
		for i := range b.B {
			b.B[i]++
		}
		if b.B = append(b.B, 1); !equal(a, was) {
			t.Errorf("%q changed to %q with what came of it", was.B, a.B)
		}
	}
}

// P12.3: whatever is typed and done, a line may be, and is no longer than room, but where it was.
func TestStaysALine(t *testing.T) {
	starts := []api.Line{{}, lineOf("ab  cd ", 3), {B: chance(1, 4090, "abc \t"), At: 4000}, {B: make([]byte, 4096), At: 4096}}
	for seed, room := range []int{math.MinInt, 0, 1, 2, 7, 40, 4093, 4096, 4097, math.MaxInt} {
		for _, l := range starts {
			done := slices.Concat(bytes.Repeat([]byte{api.McRF, api.McLF}, 4), []byte{api.EcF, api.EcrF, api.EwF, api.EwrF, api.EeolF, api.McWlF, api.McWrF, api.McEolF, api.McBolF, api.RpF})
			for i, c := range chance(seed, 700, "xyz "+string(done)+"\t"+"uvwxyzuvwxyzuvwxyz") {
				was := len(l.B)
				if bytes.IndexByte(done, c) < 0 {
					l, _ = line.Type(l, room, i%3 == 0, c)
				} else {
					l, _ = line.Do(l, int(c))
				}
				if line.Check(l) != api.OK || len(l.B) > max(was, min(room, 4096)) {
					t.Fatalf("room %d, step %d: %d octets of %d, At %d", room, i, len(l.B), was, l.At)
				}
			}
		}
	}
}

// P12.3: what was typed is gone by as many EcF; of what was typed over, no more comes back than stood behind.
func TestTypedIsGone(t *testing.T) {
	for _, start := range slices.Concat(short(), words()) {
		for _, over := range both {
			l := start
			typed := []byte("x \ty\x00")
			for _, c := range typed {
				l, _ = line.Type(l, 4096, over, c)
			}
			if !bytes.Equal(l.B[start.At:l.At], typed) {
				t.Errorf("%q, %d, %v: typed comes to %q, %d", start.B, start.At, over, l.B, l.At)
			}
			for range typed {
				l, _ = line.Do(l, api.EcF)
			}
			want := start
			if over {
				kept := max(start.At, min(len(start.B), start.At+len(typed)))
				want.B = slices.Concat(start.B[:start.At], start.B[kept:])
			}
			if !line.Same(l, want) {
				t.Errorf("%q, %d, %v: what was typed is gone, %q, %d is there", start.B, start.At, over, l.B, l.At)
			}
		}
	}
}

// P12.3: what stands ahead of At, and behind, stays by what does not concern it.
func TestOtherSideStays(t *testing.T) {
	aheadStays := []int{api.EcrF, api.EwrF, api.EeolF}
	behindStays := []int{api.EcF, api.EwF, api.EbolF}
	for _, l := range right() {
		ahead, behind := l.B[:l.At], l.B[l.At:]
		for _, f := range functions {
			got, _ := line.Do(l, f)
			switch {
			case slices.Contains(aheadStays, f):
				if got.At != l.At || !bytes.Equal(got.B[:got.At], ahead) || !bytes.HasSuffix(behind, got.B[got.At:]) {
					t.Errorf("%d, of %.40q, %d: %.40q, %d", f, l.B, l.At, got.B, got.At)
				}
			case slices.Contains(behindStays, f):
				if !bytes.Equal(got.B[got.At:], behind) || !bytes.HasPrefix(ahead, got.B[:got.At]) {
					t.Errorf("%d, of %.40q, %d: %.40q, %d", f, l.B, l.At, got.B, got.At)
				}
			case f != api.ElF:
				if !bytes.Equal(got.B, l.B) {
					t.Errorf("%d, of %.40q, %d: %.40q", f, l.B, l.At, got.B)
				}
			}
		}
		for _, over := range both {
			if got, ok := line.Type(l, 4096, over, 'x'); ok {
				rest := behind
				if over {
					rest = behind[min(1, len(behind)):]
				}
				if !bytes.HasPrefix(got.B, ahead) || got.B[l.At] != 'x' || !bytes.Equal(got.B[got.At:], rest) {
					t.Errorf("typed to %.40q, %d: %.40q, %d", l.B, l.At, got.B, got.At)
				}
			}
		}
	}
}
