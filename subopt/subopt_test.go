package subopt_test

import (
	"bytes"
	"math"
	"slices"
	"testing"

	"linnet/api"
	"linnet/subopt"
)

var both = []bool{false, true}

// wide are numbers that are far from all that may be, those among them that would be near if they were cut to fewer bits.
var wide = []int{
	-2, -3, -4, -5, -31, -32, -128, -251, -253, -255, -256, -257, -1000,
	256, 257, 258, 259, 256 + 31, 256 + 251, 256 + 253, 512, 1000, 1 << 16, 1<<16 + 1, 1<<16 + 2, 1<<16 + 3, 1<<16 + 253,
	1<<31 - 1, 1 << 31, 1<<31 + 1, -1 << 31, -1<<31 + 1,
	1 << 32, 1<<32 + 1, 1<<32 + 2, 1<<32 + 3, 1<<32 + 31, 1<<32 + 253, -1 << 32, -1<<32 + 1, -1<<32 + 3, -1<<32 + 253,
	math.MaxInt, math.MaxInt - 1, math.MinInt, math.MinInt + 1, math.MinInt + 3, math.MinInt + 253,
}

// last is a mask of the last key alone, whole one of all keys.
var (
	last  = api.Mask{31: 1}
	whole = api.Mask(bytes.Repeat([]byte{255}, 32))
)

// cases are what may be, and its octets, written out by hand.
var cases = []struct {
	s api.Sub
	b []byte
}{
	{api.Sub{Kind: 1}, []byte{1, 0}},
	{api.Sub{Kind: 1, Mode: 1}, []byte{1, 1}},
	{api.Sub{Kind: 1, Mode: 3}, []byte{1, 3}},
	{api.Sub{Kind: 1, Mode: 7}, []byte{1, 7}},
	{api.Sub{Kind: 1, Mode: 27}, []byte{1, 27}},
	{api.Sub{Kind: 1, Mode: 31}, []byte{1, 31}},
	{api.Sub{Kind: 2, Verb: 251}, []byte{251, 2}},
	{api.Sub{Kind: 2, Verb: 252}, []byte{252, 2}},
	{api.Sub{Kind: 2, Verb: 253}, []byte{253, 2}},
	{api.Sub{Kind: 2, Verb: 254}, []byte{254, 2}},
	{api.Sub{Kind: 2, Verb: 253, M: api.Mask{128}}, []byte{253, 2, 128}},
	{api.Sub{Kind: 2, Verb: 253, M: api.Mask{128, 64}}, []byte{253, 2, 128, 64}},
	{api.Sub{Kind: 2, Verb: 253, M: api.Mask{0, 0, 0, 7}}, []byte{253, 2, 0, 0, 0, 7}},
	{api.Sub{Kind: 2, Verb: 253, M: api.Mask{30: 1}}, append(append([]byte{253, 2}, make([]byte, 30)...), 1)},
	{api.Sub{Kind: 2, Verb: 253, M: last}, append(append([]byte{253, 2}, make([]byte, 31)...), 1)},
	{api.Sub{Kind: 2, Verb: 253, M: whole}, append([]byte{253, 2}, bytes.Repeat([]byte{255}, 32)...)},
	{api.Sub{Kind: 3}, []byte{3}},
	{api.Sub{Kind: 3, L: []api.Triple{{}}}, []byte{3, 0, 0, 0}},
	{api.Sub{Kind: 3, L: []api.Triple{{F: 3, Level: 2, Ack: true, V: 3}}}, []byte{3, 3, 130, 3}},
	{api.Sub{Kind: 3, L: []api.Triple{{F: 3, Level: 2, V: 3}, {F: 255, Ack: true}}}, []byte{3, 3, 2, 3, 255, 128, 0}},
	{
		api.Sub{Kind: 3, L: []api.Triple{{F: 30, Level: 1, In: true, V: 127}, {F: 0, Level: 3, Out: true, V: 255}, {F: 255, Level: 3, Ack: true, In: true, Out: true, V: 3}}},
		[]byte{3, 30, 65, 127, 0, 35, 255, 255, 227, 3},
	},
}

// chance is octets that a seed makes.
func chance(seed, n int) []byte {
	x := uint32(seed)*2654435761 + 12345
	l := make([]byte, n)
	for i := range l {
		x = x*1664525 + 1013904223
		l[i] = byte(x >> 24)
	}
	return l
}

// someMask is a mask that a seed makes, with no more than n octets that are not 0.
func someMask(seed, n int) api.Mask {
	var m api.Mask
	copy(m[:], chance(seed, n))
	return m
}

// someTriples is n triples that may be, that a seed makes.
func someTriples(seed, n int) []api.Triple {
	c := chance(seed, 3*n)
	var l []api.Triple
	for i := range n {
		x := c[3*i+1]
		l = append(l, api.Triple{F: int(c[3*i]), Level: int(x) % 4, Ack: x >= 128, In: x/64%2 == 1, Out: x/32%2 == 1, V: c[3*i+2]})
	}
	return l
}

// right is much that may be.
func right() []api.Sub {
	var l []api.Sub
	for _, c := range cases {
		l = append(l, c.s)
	}
	for mode := range 32 {
		l = append(l, api.Sub{Kind: 1, Mode: mode})
	}
	for n := range 32 {
		var one api.Mask
		one[n] = byte(1 + 7*n)
		l = append(l, api.Sub{Kind: 2, Verb: 253, M: one}, api.Sub{Kind: 2, Verb: 253, M: someMask(n, 32)}, api.Sub{Kind: 2, Verb: 253, M: someMask(n, n)})
	}
	for _, n := range []int{1, 2, 3, 29, 30, 31, 56, 57, 85, 86, 168, 169, 170} {
		l = append(l, api.Sub{Kind: 3, L: make([]api.Triple, n)}, api.Sub{Kind: 3, L: someTriples(n, n)}, api.Sub{Kind: 3, L: slices.Repeat([]api.Triple{{F: 255, Level: 3, Ack: true, In: true, Out: true, V: 255}}, n)})
	}
	return l
}

// octetsByRule is the octets of what may be, by adding.
func octetsByRule(s api.Sub) []byte {
	if s.Kind == 1 {
		return []byte{1, byte(s.Mode)}
	}
	if s.Kind == 2 {
		b := append([]byte{byte(s.Verb), 2}, s.M[:]...)
		for b[len(b)-1] == 0 {
			b = b[:len(b)-1]
		}
		return b
	}
	b := []byte{3}
	for _, t := range s.L {
		x := t.Level
		for _, bit := range []struct {
			on bool
			n  int
		}{{t.Ack, 128}, {t.In, 64}, {t.Out, 32}} {
			if bit.on {
				x += bit.n
			}
		}
		b = append(b, byte(t.F), byte(x), t.V)
	}
	return b
}

// gotByRule is what octets tell, and whether they are of the form, by the cases of the chapter one by one.
func gotByRule(b []byte) (api.Sub, bool) {
	n := len(b)
	switch {
	case n == 2 && b[0] == 1 && b[1] < 32:
		return api.Sub{Kind: 1, Mode: int(b[1])}, true
	case n == 2 && b[1] == 2 && (b[0] == 251 || b[0] == 252 || b[0] == 254):
		return api.Sub{Kind: 2, Verb: int(b[0])}, true
	case n >= 2 && n <= 34 && b[0] == 253 && b[1] == 2:
		s := api.Sub{Kind: 2, Verb: 253}
		for i, c := range b[2:] {
			s.M[i] = c
		}
		return s, true
	case n > 0 && b[0] == 3 && n%3 == 1 && n <= 511:
		s := api.Sub{Kind: 3}
		for i := 1; i < n; i += 3 {
			x := b[i+1]
			if x%32 > 3 {
				return api.Sub{}, false
			}
			s.L = append(s.L, api.Triple{F: int(b[i]), Level: int(x % 4), Ack: x >= 128, In: x/64%2 == 1, Out: x/32%2 == 1, V: b[i+2]})
		}
		return s, true
	}
	return api.Sub{}, false
}

// equal holds all parts against each other, one by one.
func equal(a, b api.Sub) bool {
	return a.Kind == b.Kind && a.Mode == b.Mode && a.Verb == b.Verb && a.M == b.M && slices.Equal(a.L, b.L)
}

// spared is s with a list of its own, that has memory behind it that is not its.
func spared(s api.Sub) api.Sub {
	if s.L != nil {
		l := append(make([]api.Triple, 0, len(s.L)+1), s.L...)
		s.L = append(l, api.Triple{F: 99, Level: 1, V: 7})[:len(s.L)]
	}
	return s
}

// sameSpared tells whether what spared made of s is as it was.
func sameSpared(in, s api.Sub) bool {
	return equal(in, s) && (s.L == nil || in.L[:len(s.L)+1][len(s.L)] == api.Triple{F: 99, Level: 1, V: 7})
}

// sparedOctets is the same of octets.
func sparedOctets(b []byte) []byte {
	c := append(make([]byte, 0, len(b)+4), b...)
	return append(c, 9, 2, 7, 8)[:len(b)]
}

// wantPut looks that s may be, and has these octets.
func wantPut(t *testing.T, s api.Sub, want []byte) {
	t.Helper()
	in := spared(s)
	if e := subopt.Check(in); e != api.OK {
		t.Errorf("Check of %v: %d", s, e)
	}
	if b, e := subopt.Put(in); !bytes.Equal(b, want) || e != api.OK {
		t.Errorf("Put of %v: %v, %d; want %v", s, b, e, want)
	}
	if !sameSpared(in, s) {
		t.Errorf("%v was changed to %v", s, in)
	}
}

// wantNone looks that s may not be.
func wantNone(t *testing.T, s api.Sub) {
	t.Helper()
	in := spared(s)
	if e := subopt.Check(in); e != api.ErrArg {
		t.Errorf("Check of %v: %d", s, e)
	}
	if b, e := subopt.Put(in); len(b) != 0 || e != api.ErrArg {
		t.Errorf("Put of %v: %v, %d; want nothing, 1", s, b, e)
	}
	if !sameSpared(in, s) {
		t.Errorf("%v was changed to %v", s, in)
	}
}

// wantGot looks that b tells s.
func wantGot(t *testing.T, b []byte, want api.Sub) {
	t.Helper()
	in := sparedOctets(b)
	if s, e := subopt.Get(in); !equal(s, want) || e != api.OK {
		t.Errorf("Get of %v: %v, %d; want %v", b, s, e, want)
	}
	wantOctets(t, in, b)
}

// wantNotGot looks that b is not of the form.
func wantNotGot(t *testing.T, b []byte) {
	t.Helper()
	in := sparedOctets(b)
	if s, e := subopt.Get(in); !equal(s, api.Sub{}) || e != api.ErrForm {
		t.Errorf("Get of %v: %v, %d; want nothing, 2", b, s, e)
	}
	wantOctets(t, in, b)
}

func wantOctets(t *testing.T, in, b []byte) {
	t.Helper()
	if !bytes.Equal(in[:len(b)+4], append(slices.Clone(b), 9, 2, 7, 8)) {
		t.Errorf("Get of %v changed it to %v", b, in)
	}
}

// wantByRule looks that b is got, or not, as the rule says.
func wantByRule(t *testing.T, b []byte) {
	t.Helper()
	if s, ok := gotByRule(b); ok {
		wantGot(t, b, s)
	} else {
		wantNotGot(t, b)
	}
}

// The numbers that the chapter writes out.
func TestNumbers(t *testing.T) {
	got := []int{api.ModeS, api.ForwardS, api.SlcS, api.AllM, api.Will, api.Wont, api.Do, api.Dont}
	if !slices.Equal(got, []int{1, 2, 3, 31, 251, 252, 253, 254}) {
		t.Errorf("numbers: %v", got)
	}
}

// The chapter's three examples.
func TestExamples(t *testing.T) {
	wantGot(t, []byte{1, 3}, api.Sub{Kind: api.ModeS, Mode: 3})
	wantGot(t, []byte{253, 2, 128}, api.Sub{Kind: api.ForwardS, Verb: api.Do, M: api.Mask{128}})
	wantNotGot(t, []byte{1, 32})
	wantNotGot(t, []byte{251, 2, 0})
	wantNotGot(t, nil)
}

// P11.1, P11.2: what is written out by hand.
func TestByHand(t *testing.T) {
	for _, c := range cases {
		wantPut(t, c.s, c.b)
		wantGot(t, c.b, c.s)
	}
}

// P11.1: much that may be, by the rule.
func TestPutByRule(t *testing.T) {
	for _, s := range right() {
		wantPut(t, s, octetsByRule(s))
	}
}

// P11.1: which numbers may be a mode, a verb, a kind.
func TestCheckNumbers(t *testing.T) {
	numbers := slices.Clone(wide)
	for n := -300; n <= 600; n++ {
		numbers = append(numbers, n)
	}
	for _, n := range numbers {
		mode, verb, kind := api.Sub{Kind: 1, Mode: n}, api.Sub{Kind: 2, Verb: n}, api.Sub{Kind: n}
		if n >= 0 && n <= 31 {
			wantPut(t, mode, []byte{1, byte(n)})
		} else {
			wantNone(t, mode)
		}
		if n >= 251 && n <= 254 {
			wantPut(t, verb, []byte{byte(n), 2})
		} else {
			wantNone(t, verb)
		}
		// Of kind 2 a verb is wanted, that is not there.
		if n == 1 || n == 3 {
			wantPut(t, kind, octetsByRule(kind))
		} else {
			wantNone(t, kind)
		}
	}
}

// P11.1: of another kind than the three nothing may be, whatever else it has.
func TestOtherKinds(t *testing.T) {
	for _, n := range append([]int{0, 4, -1, 5, 31, 250, 251, 252, 253, 254, 255}, wide...) {
		for _, s := range right() {
			s.Kind = n
			wantNone(t, s)
		}
	}
}

// P11.1: what one kind has is nothing of another one.
func TestKindsTaken(t *testing.T) {
	for _, s := range right() {
		for kind := 1; kind <= 3; kind++ {
			other := s
			other.Kind = kind
			empty := s.Mode == 0 && s.Verb == 0 && s.M == api.Mask{} && len(s.L) == 0
			if kind == s.Kind || empty && kind != 2 {
				wantPut(t, other, octetsByRule(other))
			} else {
				wantNone(t, other)
			}
		}
	}
}

// P11.1: each part that the kind does not name, alone not zero, beside parts that may be.
func TestNotNamed(t *testing.T) {
	numbers := append([]int{-1, 1, 2, 3, 31, 251, 252, 253, 254}, wide...)
	masks := []api.Mask{{128}, {1}, last, {16: 8}, whole}
	lists := [][]api.Triple{{{}}, {{F: 3, Level: 2, V: 3}}, make([]api.Triple, 170), make([]api.Triple, 171), {{F: -1}}}
	for _, s := range right() {
		for _, n := range numbers {
			x, y := s, s
			x.Mode, y.Verb = n, n
			if s.Kind != 1 {
				wantNone(t, x)
			}
			if s.Kind != 2 {
				wantNone(t, y)
			}
		}
		for _, m := range masks {
			if x := s; s.Kind != 2 || s.Verb != 253 {
				x.M = m
				wantNone(t, x)
			}
		}
		for _, l := range lists {
			if x := s; s.Kind != 3 {
				x.L = l
				wantNone(t, x)
			}
		}
	}
}

// P11.1: each key of a mask, of Do and of the other verbs.
func TestMasks(t *testing.T) {
	for octet := range 32 {
		for bit := range 8 {
			var m api.Mask
			m[octet] = 1 << bit
			want := append(append([]byte{253, 2}, make([]byte, octet)...), 1<<bit)
			wantPut(t, api.Sub{Kind: 2, Verb: 253, M: m}, want)
			for _, verb := range []int{250, 251, 252, 254, 255} {
				wantNone(t, api.Sub{Kind: 2, Verb: verb, M: m})
			}
		}
	}
}

// P11.1: no triples, nil and empty, 170 of them, and more.
func TestHowManyTriples(t *testing.T) {
	wantPut(t, api.Sub{Kind: 3}, []byte{3})
	for kind, b := range map[int][]byte{1: {1, 0}, 3: {3}} {
		wantPut(t, api.Sub{Kind: kind, L: []api.Triple{}}, b)
	}
	wantPut(t, api.Sub{Kind: 2, Verb: 251, L: []api.Triple{}}, []byte{251, 2})
	wantPut(t, api.Sub{Kind: 3, L: make([]api.Triple, 170)}, append([]byte{3}, make([]byte, 510)...))
	for _, n := range []int{171, 172, 256, 257, 340, 426, 427, 512, 65536, 65537} {
		wantNone(t, api.Sub{Kind: 3, L: make([]api.Triple, n)})
		wantNone(t, api.Sub{Kind: 3, L: someTriples(n, n)})
	}
}

// P11.1: a triple that may not be, alone, and in each place among some that may.
func TestWrongTriples(t *testing.T) {
	wrong := []api.Triple{{F: -1}, {F: 256}, {F: 256, Level: 2, V: 3}, {Level: -1}, {Level: 4}, {F: 3, Level: 128, V: 3}, {F: -1, Level: 4}, {F: math.MaxInt}, {Level: math.MinInt}, {F: 1 << 32}, {Level: 1 << 32}}
	for _, x := range wrong {
		for _, n := range []int{1, 2, 3, 30, 169, 170, 171} {
			for place := range n {
				l := someTriples(n, n)
				l[place] = x
				wantNone(t, api.Sub{Kind: 3, L: l})
			}
		}
	}
}

// P11.1: two that differ in one part alone are not the same, and a list that is nil is an empty one.
func TestSame(t *testing.T) {
	one := api.Sub{Kind: 3, Mode: 3, Verb: 253, M: api.Mask{128}, L: []api.Triple{{F: 3, Level: 2, V: 3}, {F: 9}}}
	for _, a := range append(right(), api.Sub{}, one) {
		wantSame(t, a, spared(a), true)
		for _, n := range append([]int{-1, 1, 5}, wide...) {
			for _, change := range []func(*api.Sub){
				func(s *api.Sub) { s.Kind += n },
				func(s *api.Sub) { s.Mode += n },
				func(s *api.Sub) { s.Verb += n },
			} {
				b := a
				change(&b)
				wantSame(t, a, b, false)
			}
		}
		for octet := range 32 {
			b := a
			b.M[octet] ^= 1 << (octet % 8)
			wantSame(t, a, b, false)
		}
		wantSameLists(t, a)
	}
	for _, s := range []api.Sub{{}, {Kind: 1, Mode: 3}, {Kind: 2, Verb: 253, M: last}, {Kind: 3}, {Kind: -1}} {
		empty := s
		empty.L = []api.Triple{}
		wantSame(t, s, empty, true)
		wantSame(t, empty, empty, true)
	}
}

// wantSameLists changes the list of a: one more, one less, one part of a triple, two in the other order.
func wantSameLists(t *testing.T, a api.Sub) {
	t.Helper()
	b := a
	b.L = append(slices.Clone(a.L), api.Triple{})
	wantSame(t, a, b, false)
	if len(a.L) == 0 {
		return
	}
	b.L = a.L[:len(a.L)-1]
	wantSame(t, a, b, false)
	for _, place := range []int{0, len(a.L) / 2, len(a.L) - 1} {
		for _, change := range []func(*api.Triple){
			func(x *api.Triple) { x.F++ },
			func(x *api.Triple) { x.Level++ },
			func(x *api.Triple) { x.Ack = !x.Ack },
			func(x *api.Triple) { x.In = !x.In },
			func(x *api.Triple) { x.Out = !x.Out },
			func(x *api.Triple) { x.V++ },
		} {
			b.L = slices.Clone(a.L)
			change(&b.L[place])
			wantSame(t, a, b, false)
		}
	}
	b.L = slices.Clone(a.L)
	b.L[0], b.L[len(b.L)-1] = b.L[len(b.L)-1], b.L[0]
	wantSame(t, a, b, b.L[0] == a.L[0])
}

func wantSame(t *testing.T, a, b api.Sub, want bool) {
	t.Helper()
	if subopt.Same(a, b) != want || subopt.Same(b, a) != want {
		t.Errorf("Same of %v and %v: %v", a, b, !want)
	}
}

// P11.2: how many octets a mask may have, and how many triples there may be.
func TestGetEdges(t *testing.T) {
	for _, n := range []int{0, 1, 31, 32} {
		full, zero := chance(n, n), make([]byte, n)
		for _, b := range [][]byte{full, zero, bytes.Repeat([]byte{255}, n)} {
			var m api.Mask
			copy(m[:], b)
			wantGot(t, append([]byte{253, 2}, b...), api.Sub{Kind: 2, Verb: 253, M: m})
		}
	}
	for _, noughts := range []int{1, 2, 30, 31} {
		wantGot(t, append([]byte{253, 2, 1}, make([]byte, noughts)...), api.Sub{Kind: 2, Verb: 253, M: api.Mask{1}})
	}
	for _, n := range []int{33, 34, 64, 256, 258, 509, 510, 511, 65536, 65538} {
		wantNotGot(t, append([]byte{253, 2}, make([]byte, n)...))
		wantNotGot(t, append([]byte{253, 2}, chance(n, n)...))
	}
	wantGot(t, []byte{3}, api.Sub{Kind: 3})
	for _, n := range []int{1, 169, 170} {
		s := api.Sub{Kind: 3, L: someTriples(n, n)}
		wantGot(t, octetsByRule(s), s)
		wantNotGot(t, append(octetsByRule(s), 0))
		wantNotGot(t, append(octetsByRule(s), 0, 0))
	}
	for _, n := range []int{171, 172, 256, 340, 426, 512, 65536, 65706} {
		wantNotGot(t, octetsByRule(api.Sub{Kind: 3, L: someTriples(n, n)}))
		wantNotGot(t, append([]byte{3}, make([]byte, 3*n)...))
	}
}

// P11.2: a second octet of a triple with a bit of no meaning, wherever it is.
func TestGetWrongTriples(t *testing.T) {
	for _, bit := range []byte{4, 8, 16, 28} {
		for _, n := range []int{1, 2, 30, 170} {
			for place := range n {
				b := octetsByRule(api.Sub{Kind: 3, L: someTriples(n, n)})
				b[3*place+2] |= bit
				wantNotGot(t, b)
			}
		}
	}
}

// P11.2: nothing, and all rows of one octet, and of two.
func TestGetShort(t *testing.T) {
	wantNotGot(t, nil)
	wantNotGot(t, []byte{})
	for a := range 256 {
		wantByRule(t, []byte{byte(a)})
		for b := range 256 {
			wantByRule(t, []byte{byte(a), byte(b)})
		}
	}
}

// P11.2: each first octet, with each second one, and of some more what stands behind these.
func TestGetLonger(t *testing.T) {
	tails := [][]byte{{0}, {2}, {3}, {255}, {0, 0}, {2, 3}, {130, 3, 1}, make([]byte, 5), make([]byte, 32), make([]byte, 33), make([]byte, 509), make([]byte, 512)}
	for a := range 256 {
		for b := range 256 {
			for _, tail := range tails[:7] {
				wantByRule(t, append([]byte{byte(a), byte(b)}, tail...))
			}
		}
		for _, tail := range tails {
			wantByRule(t, append([]byte{byte(a), 2}, tail...))
			wantByRule(t, append([]byte{byte(a)}, tail...))
		}
	}
}

// P11.2: each length, of each first octet that means something, with octets 0, 1 and 2, and with such as a seed makes.
func TestGetLengths(t *testing.T) {
	for _, first := range []byte{0, 1, 2, 3, 4, 250, 251, 252, 253, 254, 255} {
		for n := range 530 {
			for c := range 3 {
				wantByRule(t, append([]byte{first}, bytes.Repeat([]byte{byte(c)}, n)...))
			}
			wantByRule(t, append([]byte{first}, chance(n, n)...))
			wantByRule(t, append([]byte{first, 2}, chance(n, n)...))
		}
	}
}

// P11.2: what is right, cut anywhere, or with an octet more.
func TestGetCut(t *testing.T) {
	for _, s := range right() {
		b := octetsByRule(s)
		for n := range b {
			wantByRule(t, b[:n])
			wantByRule(t, b[n:])
		}
		for _, c := range []byte{0, 1, 2, 3, 253, 255} {
			wantByRule(t, append(slices.Clone(b), c))
			wantByRule(t, append([]byte{c}, b...))
		}
	}
}

// P11.3: what was put is got.
func TestPutGot(t *testing.T) {
	for _, s := range right() {
		b, e := subopt.Put(s)
		if e != api.OK {
			t.Fatalf("Put of %v: %d", s, e)
		}
		got, e := subopt.Get(b)
		if e != api.OK || !equal(got, s) || !subopt.Same(got, s) {
			t.Errorf("%v was put, got is %v, %d", s, got, e)
		}
	}
}

// P11.3: what is got may be, and, put, is as long as it was, or shorter by noughts at a mask's end.
func TestGotPut(t *testing.T) {
	rows := [][]byte{}
	for _, s := range right() {
		rows = append(rows, octetsByRule(s))
	}
	for n := range 33 {
		for noughts := range 33 - n {
			rows = append(rows, append(append([]byte{253, 2}, chance(n, n)...), make([]byte, noughts)...))
		}
	}
	for _, b := range rows {
		s, e := subopt.Get(b)
		if e != api.OK || subopt.Check(s) != api.OK {
			t.Fatalf("Get of %v: %v, %d", b, s, e)
		}
		want := b
		for b[0] == 253 && len(want) > 2 && want[len(want)-1] == 0 {
			want = want[:len(want)-1]
		}
		if put, e := subopt.Put(s); e != api.OK || !bytes.Equal(put, want) {
			t.Errorf("%v was got, put is %v, %d", b, put, e)
		}
	}
}

// P11.1, P11.2: what is answered shares nothing with what was handed in, nor with another answer.
func TestAnew(t *testing.T) {
	for _, s := range right() {
		b := octetsByRule(s)
		for range 2 {
			in := spared(s)
			put, _ := subopt.Put(in)
			clear(in.L)
			if !bytes.Equal(put, b) {
				t.Errorf("Put of %v is %v behind a change", s, put)
			}
			clear(put[:cap(put)])
			octets := slices.Clone(b)
			got, _ := subopt.Get(octets)
			clear(octets)
			if !equal(got, s) {
				t.Errorf("Get of %v is %v behind a change", b, got)
			}
			clear(got.L[:cap(got.L)])
		}
	}
}

// All forms of a triple, put and got.
func TestTriples(t *testing.T) {
	for f := range 256 {
		for level := range 4 {
			for _, ack := range both {
				for _, in := range both {
					for _, out := range both {
						s := api.Sub{Kind: 3, L: []api.Triple{{F: f, Level: level, Ack: ack, In: in, Out: out, V: byte(255 - f)}}}
						b := octetsByRule(s)
						wantPut(t, s, b)
						wantGot(t, b, s)
					}
				}
			}
		}
	}
}
