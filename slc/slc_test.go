package slc_test

import (
	"bytes"
	"math"
	"slices"
	"testing"

	"linnet/api"
	"linnet/slc"
)

var both = []bool{false, true}

// wide are numbers that are far from all that may be, those among them that would be near if they were cut to fewer bits.
var wide = []int{
	-2, -3, -4, -12, -13, -14, -20, -128, -253, -254, -255, -256, -257, -1000,
	257, 258, 259, 256 + 242, 512, 1000, 1 << 16, 1<<16 + 1, 1<<16 + 3, 1<<16 + 244, 1<<31 - 1, 1 << 31, 1<<31 + 1, -1 << 31, -1<<31 + 1,
	1 << 32, 1<<32 + 1, 1<<32 + 2, 1<<32 + 9, 1<<32 + 236, 1<<32 + 244, -1 << 32, -1<<32 + 1, -1<<32 + 3, -1<<32 + 244,
	math.MaxInt, math.MaxInt - 1, math.MinInt, math.MinInt + 1, math.MinInt + 3, math.MinInt + 244,
}

// signals are the signals and their commands, as the chapter writes them out.
var signals = [][2]int{{1, 242}, {2, 243}, {3, 244}, {4, 245}, {5, 246}, {6, 239}, {7, 238}, {8, 236}, {9, 237}}

// putCases are triples, and their octets, written out by hand.
var putCases = []struct {
	t api.Triple
	b [3]byte
}{
	{api.Triple{}, [3]byte{0, 0, 0}},
	{api.Triple{F: 3, Level: 2, Ack: true, V: 3}, [3]byte{3, 130, 3}},
	{api.Triple{F: 1, Level: 1}, [3]byte{1, 1, 0}},
	{api.Triple{F: 1, Level: 3}, [3]byte{1, 3, 0}},
	{api.Triple{F: 30, Level: 2, In: true, V: 127}, [3]byte{30, 66, 127}},
	{api.Triple{F: 31, Level: 2, Out: true, V: 128}, [3]byte{31, 34, 128}},
	{api.Triple{F: 10, Level: 3, In: true, Out: true, V: 8}, [3]byte{10, 99, 8}},
	{api.Triple{F: 254, Level: 0, Ack: true, In: true, V: 1}, [3]byte{254, 192, 1}},
	{api.Triple{F: 128, Level: 1, Ack: true, Out: true, V: 254}, [3]byte{128, 161, 254}},
	{api.Triple{F: 255, Level: 3, Ack: true, In: true, Out: true, V: 255}, [3]byte{255, 227, 255}},
}

// secondByRule is the second octet of a triple that may be, by adding.
func secondByRule(t api.Triple) int {
	n := t.Level
	if t.Ack {
		n += 128
	}
	if t.In {
		n += 64
	}
	if t.Out {
		n += 32
	}
	return n
}

// octetsByRule is the octets of triples that may be.
func octetsByRule(l []api.Triple) []byte {
	var b []byte
	for _, t := range l {
		b = append(b, byte(t.F), byte(secondByRule(t)), t.V)
	}
	return b
}

// forms is each of the four levels with each of the eight ways of the marks, of a function and a key.
func forms(f int, v byte) []api.Triple {
	var l []api.Triple
	for level := range 4 {
		for _, ack := range both {
			for _, in := range both {
				for _, out := range both {
					l = append(l, api.Triple{F: f, Level: level, Ack: ack, In: in, Out: out, V: v})
				}
			}
		}
	}
	return l
}

// rightTriples is each function with many a key, and each key with many a function, in all forms.
func rightTriples() []api.Triple {
	var l []api.Triple
	for n := range 256 {
		for _, m := range []int{0, 1, 3, 30, 127, 128, 254, 255} {
			l = append(l, forms(n, byte(m))...)
			l = append(l, forms(m, byte(n))...)
		}
	}
	return l
}

// wrongTriples may not be, for their function, their level, or both.
func wrongTriples() []api.Triple {
	var l []api.Triple
	for _, n := range append([]int{-1, 256}, wide...) {
		l = append(l, forms(n, 3)...)
		l = append(l, api.Triple{F: n}, api.Triple{F: n, Level: -1}, api.Triple{F: n, Level: 4})
	}
	for _, n := range append([]int{-1, 4, 5, 6, 7, 8, 16, 32, 64, 128, 130, 255, 256}, wide...) {
		for _, f := range []int{0, 3, 30, 255} {
			l = append(l, api.Triple{F: f, Level: n}, api.Triple{F: f, Level: n, Ack: true, In: true, Out: true, V: 255})
		}
	}
	return l
}

// spared is triples of their own, with memory behind them that is not theirs.
func spared(l []api.Triple) []api.Triple {
	c := append(make([]api.Triple, 0, len(l)+2), l...)
	c = append(c, api.Triple{F: 99, Level: 1, V: 7}, api.Triple{F: 98, Level: 2, V: 8})
	return c[:len(l)]
}

// sparedOctets is the same of octets.
func sparedOctets(b []byte) []byte {
	c := append(make([]byte, 0, len(b)+4), b...)
	return append(c, 9, 2, 7, 8)[:len(b)]
}

func putSpared(t *testing.T, l []api.Triple) ([]byte, api.Errno) {
	t.Helper()
	in := spared(l)
	b, e := slc.Put(in...)
	if before := spared(l); !slices.Equal(in[:len(l)+2], before[:len(l)+2]) {
		t.Errorf("Put of %v changed it to %v", l, in)
	}
	return b, e
}

func getSpared(t *testing.T, b []byte) ([]api.Triple, api.Errno) {
	t.Helper()
	in := sparedOctets(b)
	l, e := slc.Get(in)
	if before := sparedOctets(b); !bytes.Equal(in[:len(b)+4], before[:len(b)+4]) {
		t.Errorf("Get of %v changed it to %v", b, in)
	}
	return l, e
}

// wantSame looks that these triples have these octets, and these octets these triples.
func wantSame(t *testing.T, l []api.Triple, b []byte) {
	t.Helper()
	if got, e := putSpared(t, l); !bytes.Equal(got, b) || e != api.OK {
		t.Errorf("Put of %v: %v, %d; want %v", l, got, e, b)
	}
	if got, e := getSpared(t, b); !slices.Equal(got, l) || e != api.OK {
		t.Errorf("Get of %v: %v, %d; want %v", b, got, e, l)
	}
}

func wantNotPut(t *testing.T, l ...api.Triple) {
	t.Helper()
	if b, e := putSpared(t, l); len(b) != 0 || e != api.ErrArg {
		t.Errorf("Put of %v: %v, %d; want nothing, 1", l, b, e)
	}
}

func wantNotGot(t *testing.T, b []byte) {
	t.Helper()
	if l, e := getSpared(t, b); len(l) != 0 || e != api.ErrForm {
		t.Errorf("Get of %v: %v, %d; want nothing, 2", b, l, e)
	}
}

// The numbers that the chapter writes out.
func TestNumbers(t *testing.T) {
	if got := []int{api.NoSupport, api.CantChange, api.Value, api.Default}; !slices.Equal(got, []int{0, 1, 2, 3}) {
		t.Errorf("levels: %v", got)
	}
	got := [][2]int{
		{api.SynchF, api.MarkC}, {api.BrkF, api.BrkC}, {api.IpF, api.IpC}, {api.AoF, api.AoC}, {api.AytF, api.AytC},
		{api.EorF, api.EorC}, {api.AbortF, api.AbortC}, {api.EofF, api.EofC}, {api.SuspF, api.SuspC},
	}
	if !slices.Equal(got, signals) {
		t.Errorf("signals: %v", got)
	}
	if api.EcF != 10 || api.EeolF != 30 || api.Funcs != 31 {
		t.Errorf("functions: %d, %d, %d", api.EcF, api.EeolF, api.Funcs)
	}
}

// The chapter's three examples.
func TestExamples(t *testing.T) {
	if b, e := slc.Put(api.Triple{F: api.IpF, Level: api.Value, Ack: true, V: 3}); string(b) != "\x03\x82\x03" || e != api.OK {
		t.Errorf("1: %v, %d", b, e)
	}
	for _, b := range [][]byte{{3, 2}, {3, 4, 3}} {
		wantNotGot(t, b)
	}
	if c, ok := slc.Command(api.IpF); c != 244 || !ok {
		t.Errorf("3: %d, %v", c, ok)
	}
	if c, ok := slc.Command(api.EcF); c != 0 || ok {
		t.Errorf("3: %d, %v", c, ok)
	}
}

// P7.1: all triples that may be, and many that may not.
func TestCheck(t *testing.T) {
	for _, x := range rightTriples() {
		if e := slc.Check(x); e != api.OK {
			t.Errorf("Check of %v: %d", x, e)
		}
	}
	for _, x := range wrongTriples() {
		if e := slc.Check(x); e != api.ErrArg {
			t.Errorf("Check of %v: %d", x, e)
		}
	}
}

// P7.1: which numbers may be F and Level, all from below the octets to above them, the one with the other.
func TestCheckNumbers(t *testing.T) {
	for n := -300; n <= 600; n++ {
		for level := -5; level <= 9; level++ {
			want := api.OK
			if n < 0 || n > 255 || level < 0 || level > 3 {
				want = api.ErrArg
			}
			if e := slc.Check(api.Triple{F: n, Level: level}); e != want {
				t.Errorf("Check of F %d, Level %d: %d", n, level, e)
			}
		}
		if e := slc.Check(api.Triple{F: 3, Level: n, V: 3}); (e == api.OK) != (n >= 0 && n <= 3) {
			t.Errorf("Check of Level %d: %d", n, e)
		}
	}
}

// P7.1, P7.2: one triple, by hand.
func TestOneByHand(t *testing.T) {
	for _, c := range putCases {
		wantSame(t, []api.Triple{c.t}, c.b[:])
	}
}

// P7.1, P7.2: one triple, in all forms, by the rule.
func TestOneByRule(t *testing.T) {
	for _, x := range rightTriples() {
		l := []api.Triple{x}
		wantSame(t, l, octetsByRule(l))
	}
}

// P7.1, P7.2: none, whether the list is nil or empty.
func TestNone(t *testing.T) {
	wantSame(t, nil, nil)
	wantSame(t, []api.Triple{}, []byte{})
	if b, e := slc.Put(); len(b) != 0 || e != api.OK {
		t.Errorf("Put of nothing: %v, %d", b, e)
	}
	if l, e := slc.Get(nil); len(l) != 0 || e != api.OK {
		t.Errorf("Get of nothing: %v, %d", l, e)
	}
}

// P7.1, P7.2: many, one behind the other, in their order.
func TestMany(t *testing.T) {
	var l []api.Triple
	var b []byte
	for _, c := range putCases {
		l = append(l, c.t)
		b = append(b, c.b[:]...)
		wantSame(t, l, b)
	}
	all := rightTriples()
	wantSame(t, all, octetsByRule(all))
	slices.Reverse(all)
	wantSame(t, all, octetsByRule(all))
	same := slices.Repeat([]api.Triple{putCases[1].t}, 70000)
	wantSame(t, same, bytes.Repeat([]byte{3, 130, 3}, 70000))
}

// P7.1: one that may not be, alone, and in the first, a middle and the last place among others that may.
func TestPutWrong(t *testing.T) {
	a, b := putCases[1].t, putCases[9].t
	for _, x := range wrongTriples() {
		wantNotPut(t, x)
		wantNotPut(t, x, a)
		wantNotPut(t, x, a, b)
		wantNotPut(t, a, x, b)
		wantNotPut(t, a, b, x)
		wantNotPut(t, a, a, x, b, b)
		wantNotPut(t, x, x)
	}
}

// P7.1: one that may not be, wherever it is in a long row.
func TestPutWrongAnywhere(t *testing.T) {
	for _, x := range []api.Triple{{F: -1}, {F: 256}, {Level: -1}, {Level: 4}} {
		for place := range 40 {
			l := slices.Repeat([]api.Triple{putCases[1].t}, 40)
			l[place] = x
			wantNotPut(t, l...)
		}
	}
}

// P7.2: each of the 256 second octets: just those without the bits 4, 8 and 16 are got.
func TestGetSecond(t *testing.T) {
	got := 0
	for n := range 256 {
		b := []byte{3, byte(n), 9}
		if n%32 > 3 {
			wantNotGot(t, b)
			continue
		}
		got++
		want := api.Triple{F: 3, Level: n % 4, Ack: n/128%2 == 1, In: n/64%2 == 1, Out: n/32%2 == 1, V: 9}
		wantSame(t, []api.Triple{want}, b)
	}
	if got != 32 {
		t.Errorf("%d second octets are got", got)
	}
}

// P7.2: the bits that are forbidden in the second octet are not so in the others.
func TestGetOthers(t *testing.T) {
	for n := range 256 {
		wantSame(t, []api.Triple{{F: n, Level: 2, V: 1}}, []byte{byte(n), 2, 1})
		wantSame(t, []api.Triple{{F: 1, Level: 2, V: byte(n)}}, []byte{1, 2, byte(n)})
		wantSame(t, []api.Triple{{F: n, Level: 2, V: byte(n)}, {F: n, V: byte(n)}}, []byte{byte(n), 2, byte(n), byte(n), 0, byte(n)})
	}
}

// P7.2: octets of each length: just those that are a multiple of three are got.
func TestGetLengths(t *testing.T) {
	for n := range 400 {
		b := bytes.Repeat([]byte{1}, n)
		if n%3 != 0 {
			wantNotGot(t, b)
			continue
		}
		wantSame(t, slices.Repeat([]api.Triple{{F: 1, Level: 1, V: 1}}, n/3), b)
	}
	for _, n := range []int{1536, 65535, 65536 * 3, 1 << 20 * 3} {
		wantNotGot(t, make([]byte, n-1))
		wantSame(t, make([]api.Triple, n/3), make([]byte, n))
		wantNotGot(t, make([]byte, n+1))
	}
}

// P7.2: octets that are of no whole number of triples, wherever they are cut, and whatever they are.
func TestGetCut(t *testing.T) {
	whole := octetsByRule([]api.Triple{putCases[1].t, putCases[4].t, putCases[9].t})
	for n := range len(whole) + 1 {
		if n%3 != 0 {
			wantNotGot(t, whole[:n])
			wantNotGot(t, whole[len(whole)-n:])
		}
	}
	for n := range 256 {
		c := byte(n)
		wantNotGot(t, []byte{c})
		wantNotGot(t, []byte{c, c})
		wantNotGot(t, []byte{3, 2, 3, c})
		wantNotGot(t, []byte{3, 2, 3, c, c})
	}
}

// P7.2: a forbidden bit in the first, a middle and the last triple, beside right ones, and beside other bits.
func TestGetForbiddenAnywhere(t *testing.T) {
	for _, bit := range []byte{4, 8, 16, 12, 20, 24, 28} {
		for _, beside := range []byte{0, 1, 2, 3, 32, 64, 128, 224, 227} {
			for _, n := range []int{1, 2, 3, 5, 40} {
				for place := range n {
					b := bytes.Repeat([]byte{3, 130, 3}, n)
					b[3*place+1] = beside | bit
					wantNotGot(t, b)
				}
			}
		}
	}
}

// P7.3: each signal has its command, and the command that signal.
func TestSignals(t *testing.T) {
	for _, c := range signals {
		if cmd, ok := slc.Command(c[0]); cmd != c[1] || !ok {
			t.Errorf("Command of %d: %d, %v; want %d", c[0], cmd, ok, c[1])
		}
		if f, ok := slc.Signal(c[1]); f != c[0] || !ok {
			t.Errorf("Signal of %d: %d, %v; want %d", c[1], f, ok, c[0])
		}
	}
}

// P7.3: no other number has a command, or is one.
func TestNoSignals(t *testing.T) {
	numbers := slices.Clone(wide)
	for n := -300; n <= 700; n++ {
		numbers = append(numbers, n)
	}
	for _, n := range numbers {
		isSignal := slices.ContainsFunc(signals, func(c [2]int) bool { return c[0] == n })
		isCommand := slices.ContainsFunc(signals, func(c [2]int) bool { return c[1] == n })
		if cmd, ok := slc.Command(n); ok != isSignal || !ok && cmd != 0 {
			t.Errorf("Command of %d: %d, %v", n, cmd, ok)
		}
		if f, ok := slc.Signal(n); ok != isCommand || !ok && f != 0 {
			t.Errorf("Signal of %d: %d, %v", n, f, ok)
		}
	}
}

// P7.3: the edges by name: functions that are no signals, and the commands among and beside those of signals.
func TestNoSignalEdges(t *testing.T) {
	for _, f := range []int{-1, 0, 10, api.EcF, api.EeolF, api.Funcs, 236, 244, 255, 256} {
		if cmd, ok := slc.Command(f); cmd != 0 || ok {
			t.Errorf("Command of %d: %d, %v", f, cmd, ok)
		}
	}
	for _, cmd := range []int{-1, 0, 1, 3, 9, 235, api.SeC, 241, 247, 248, 249, api.SbC, api.Will, api.Iac, 256} {
		if f, ok := slc.Signal(cmd); f != 0 || ok {
			t.Errorf("Signal of %d: %d, %v", cmd, f, ok)
		}
	}
}

// picks is a row of numbers that is the same each time.
type picks uint64

func (p *picks) below(n int) int {
	*p = *p*6364136223846793005 + 1442695040888963407
	return int(uint64(*p>>33) % uint64(n))
}

// P7.4: what was put is got, also where it was put in two pieces, one behind the other.
func TestPutIsGot(t *testing.T) {
	all := rightTriples()
	p := picks(7)
	for range 3000 {
		var l []api.Triple
		for range p.below(20) {
			l = append(l, all[p.below(len(all))])
		}
		at := p.below(len(l) + 1)
		first, e := slc.Put(l[:at]...)
		second, f := slc.Put(l[at:]...)
		if e != api.OK || f != api.OK {
			t.Fatalf("Put of %v, cut at %d: %d, %d", l, at, e, f)
		}
		if got, e := slc.Get(append(first, second...)); !slices.Equal(got, l) || e != api.OK {
			t.Fatalf("Put of %v, cut at %d: got as %v, %d", l, at, got, e)
		}
	}
}

// P7.4: what is got, put again, is what it was; and of octets that are not got there are no triples that have them.
func TestGotIsPut(t *testing.T) {
	p := picks(77)
	got := 0
	for range 30000 {
		b := make([]byte, p.below(16))
		for i := range b {
			b[i] = byte(p.below(256))
			if i%3 == 1 && p.below(9) > 0 {
				b[i] &= 227
			}
		}
		l, e := slc.Get(b)
		if e != api.OK {
			continue
		}
		got++
		for _, x := range l {
			if slc.Check(x) != api.OK {
				t.Fatalf("Get of %v: %v, that may not be", b, x)
			}
		}
		if back, e := slc.Put(l...); !bytes.Equal(back, b) || e != api.OK {
			t.Fatalf("Get of %v: %v, put as %v, %d", b, l, back, e)
		}
	}
	if got < 3000 {
		t.Errorf("only %d were got", got)
	}
}

// P7.4: each signal has a command of its own, and is that command's signal.
func TestOwnCommands(t *testing.T) {
	of := map[int]int{}
	for f := range 256 {
		cmd, ok := slc.Command(f)
		if !ok {
			continue
		}
		if other, had := of[cmd]; had {
			t.Errorf("%d and %d have the command %d", other, f, cmd)
		}
		of[cmd] = f
	}
	if len(of) != 9 {
		t.Errorf("%d signals", len(of))
	}
	for cmd := range 256 {
		f, ok := slc.Signal(cmd)
		if want, had := of[cmd]; ok != had || f != want {
			t.Errorf("Signal of %d: %d, %v; want %d, %v", cmd, f, ok, want, had)
		}
	}
}

// R3: what a call answered stays, whatever is done with what was handed in, and with later answers.
func TestAnswersAreOwn(t *testing.T) {
	l := []api.Triple{putCases[1].t, putCases[9].t}
	b, _ := slc.Put(l...)
	again, _ := slc.Put(l...)
	l[0], l[1] = api.Triple{}, api.Triple{}
	clear(again)
	if string(b) != "\x03\x82\x03\xff\xe3\xff" {
		t.Errorf("octets became %v", b)
	}
	got, _ := slc.Get(b)
	other, _ := slc.Get(b)
	clear(b)
	clear(other)
	if !slices.Equal(got, []api.Triple{putCases[1].t, putCases[9].t}) {
		t.Errorf("triples became %v", got)
	}
}
