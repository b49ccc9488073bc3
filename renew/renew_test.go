package renew_test

import (
	"bytes"
	"fmt"
	"math"
	"slices"
	"strings"
	"testing"

	"linnet/api"
	"linnet/editor"
	"linnet/renew"
	"linnet/table"
)

// standardMeant are the keys that mean something in the standard table, and are not typed: its cells' ones, and 13.
const standardMeant = "\x01\x02\x03\x04\x05\x06\x08\x09\x0b\x0d\x0e\x0f\x10\x11\x12\x13\x14\x15\x16\x17\x18\x19\x1a\x1c\x1d\x7f"

var both = []bool{false, true}

func stateOf(s string, at int) api.State {
	return api.State{L: api.Line{B: []byte(s), At: at}}
}

func set(s api.State, over, lit bool) api.State {
	s.Over, s.Lit = over, lit
	return s
}

// picks are numbers that look like chance, and are the same each time.
func picks(seed int) func(below int) int {
	x := uint32(seed)*2654435761 + 12345
	return func(below int) int {
		x = x*1664525 + 1013904223
		return int(x>>8) % below
	}
}

func chance(seed, n int, some string) []byte {
	pick := picks(seed)
	b := make([]byte, n)
	for i := range b {
		b[i] = some[pick(len(some))]
	}
	return b
}

// with is a table with other cells, whether it may be or not.
func with(t api.Table, cells map[int]api.Cell) api.Table {
	for f, c := range cells {
		t[f] = c
	}
	return t
}

// without is a table in which these have no key.
func without(t api.Table, l ...int) api.Table {
	for _, f := range l {
		t[f] = api.Cell{}
	}
	return t
}

// keyed is a table in which a function's key is another one.
func keyed(t api.Table, f int, key byte) api.Table {
	t[f] = api.Cell{Level: api.Value, V: key}
	return t
}

// full is the standard table with a key for each function that has none there.
func full() api.Table {
	return with(table.Standard(), map[int]api.Cell{
		api.SynchF: {Level: api.CantChange, V: 200}, api.BrkF: {Level: api.Value, V: 201}, api.EorF: {Level: api.CantChange, V: 202},
		api.Forw1F: {Level: api.Value, V: ';'}, api.Forw2F: {Level: api.CantChange, V: ':'},
	})
}

// tables are some that may be: other keys for what there is, one key for two functions, no key at all.
func tables() []api.Table {
	s := table.Standard()
	l := []api.Table{
		{}, s, full(),
		without(full(), api.McBolF), without(full(), api.McBolF, api.McLF), without(full(), api.McBolF, api.McLF, api.McWlF),
		without(full(), api.LnextF), without(full(), api.OverF), without(full(), api.LnextF, api.OverF, api.McBolF, api.McWlF),
		with(s, map[int]api.Cell{api.EcF: {Level: api.Value, V: 'a'}, api.IpF: {}, api.LnextF: {Level: api.CantChange, V: 'b'}}),
		with(s, map[int]api.Cell{api.ElF: {Level: api.Value, V: 127}, api.Forw1F: {Level: api.Value, V: 3}, api.OverF: {Level: api.Value, V: 9}}),
		with(s, map[int]api.Cell{api.McBolF: {Level: api.Value, V: 13}, api.LnextF: {}, api.EofF: {}, api.EcF: {}}),
	}
	for seed := range 12 {
		t := api.Table{}
		pick := picks(seed)
		for f := 1; f <= 30; f++ {
			if level := pick(3); level > 0 {
				t[f] = api.Cell{Level: level, V: byte(pick([]int{256, 40, 130}[seed%3]))}
			}
		}
		l = append(l, t)
	}
	return l
}

// oddTables may not be: a level that there is not, a key without a level, something in cell 0.
func oddTables() []api.Table {
	s := table.Standard()
	return []api.Table{
		with(s, map[int]api.Cell{api.EcF: {Level: 3, V: 'a'}, api.McBolF: {Level: -1, V: 'b'}}),
		with(s, map[int]api.Cell{api.LnextF: {V: 22}, api.OverF: {V: 16}, api.McBolF: {V: 1}, api.McLF: {Level: 1 << 32, V: 'c'}}),
		with(s, map[int]api.Cell{0: {Level: 2, V: 'a'}, api.OverF: {Level: math.MaxInt, V: 'c'}, api.Forw1F: {Level: math.MinInt, V: ' '}}),
		with(api.Table{}, map[int]api.Cell{0: {Level: 2, V: 3}, api.LnextF: {Level: math.MinInt, V: 'b'}, api.McWlF: {Level: 4, V: 'a'}}),
	}
}

// states are some that may be, with At at each place, and with Over and Lit set and not.
func states() []api.State {
	var l []api.State
	for _, s := range []string{"", "a", "\x03", "ab  cd\tef ", "\x0d\x16\x16\x03", "a\x01;\x7f:b\x00\xff", string(allKeys())} {
		for at := range len(s) + 1 {
			for _, over := range both {
				for _, lit := range both {
					l = append(l, set(stateOf(s, at), over, lit))
				}
			}
		}
	}
	return l
}

// allKeys are the 256 that there are.
func allKeys() []byte {
	b := make([]byte, 256)
	for i := range b {
		b[i] = byte(i)
	}
	return b
}

// longStates have as many octets as there may be, or nearly.
func longStates() []api.State {
	var l []api.State
	for _, n := range []int{4095, 4096} {
		for _, some := range []string{"ab \t", "a\x03\x0d\x16", "\x0d"} {
			for _, at := range []int{0, 1, n / 2, n - 1, n} {
				l = append(l, set(api.State{L: api.Line{B: chance(n, n, some), At: at}}, at%2 == 0, at%3 == 0))
			}
		}
	}
	return l
}

// oddStates may not be: by At, by how many octets there are.
func oddStates() []api.State {
	wide := []int{-2, -255, -256, -4096, -65536, 257, 4097, 8192, 65536, 65537, -1 << 31, 1 << 31, 1 << 32, 1<<32 + 1, -1 << 32, math.MaxInt, math.MinInt, math.MinInt + 1}
	var l []api.State
	for _, over := range both {
		for _, lit := range both {
			for _, n := range []int{0, 1, 5, 256, 4096} {
				for _, at := range append([]int{-1, n + 1}, wide...) {
					if at < 0 || at > n {
						l = append(l, set(api.State{L: api.Line{B: chance(n, n, "abc \t\x03"), At: at}}, over, lit))
					}
				}
			}
			for _, n := range []int{4097, 8192, 65536} {
				for _, at := range []int{math.MinInt, -1, 0, 1, 4096, n, n + 1, math.MaxInt} {
					l = append(l, set(api.State{L: api.Line{B: chance(n, n, "abc \t\x03"), At: at}}, over, lit))
				}
			}
		}
	}
	return l
}

// meaning goes from the highest function down: the last one that is found is the lowest.
func meaning(t api.Table, k byte) int {
	f := 0
	for g := 30; g >= 1; g-- {
		if t[g].Level != 0 && t[g].V == k {
			f = g
		}
	}
	if k == 13 {
		f = 31
	}
	return f
}

func plain(t api.Table, k byte) bool {
	f := meaning(t, k)
	return f == 0 || f == 17 || f == 18
}

// rule tells the keys that renew states by a table, in a way of its own: what each key means is gone through once, and each octet's keys are written out ahead.
func rule(t api.Table) func(s api.State) string {
	var keyOf, told [256]string
	for _, k := range allKeys() {
		keyOf[meaning(t, k)] = string([]byte{k})
	}
	for _, k := range allKeys() {
		told[k] = string([]byte{k})
		if !plain(t, k) {
			told[k] = keyOf[14] + told[k]
		}
	}
	return func(s api.State) string {
		var ahead, behind, back, end strings.Builder
		for i, c := range s.L.B {
			if i < s.L.At {
				ahead.WriteString(told[c])
				continue
			}
			behind.WriteString(told[c])
			switch {
			case keyOf[23] == "" && keyOf[19] == "":
				back.WriteString(keyOf[21])
			case keyOf[23] == "":
				back.WriteString(keyOf[19])
			case i == s.L.At:
				back.WriteString(keyOf[23])
			}
		}
		if s.Over {
			end.WriteString(keyOf[26])
		}
		if s.Lit {
			end.WriteString(keyOf[14])
		}
		return behind.String() + back.String() + ahead.String() + end.String()
	}
}

// brief is as much of a state as a message needs.
func brief(s api.State) string {
	return fmt.Sprintf("%.40q (%d), At %d, Over %v, Lit %v", s.L.B, len(s.L.B), s.L.At, s.Over, s.Lit)
}

func sameState(a, b api.State) bool {
	return bytes.Equal(a.L.B, b.L.B) && a.L.At == b.L.At && a.Over == b.Over && a.Lit == b.Lit
}

// spared is b with memory of its own, and with more behind it that is not its.
func spared(b []byte) []byte {
	return append(append(make([]byte, 0, len(b)+2), b...), 201, 202)[:len(b)]
}

func sparedState(s api.State) api.State {
	s.L.B = spared(s.L.B)
	return s
}

// wantAsItWas looks that what spared made of b is as it was.
func wantAsItWas(t *testing.T, in, b []byte) {
	t.Helper()
	if !bytes.Equal(in, b) || !bytes.Equal(in[:len(b)+2][len(b):], []byte{201, 202}) {
		t.Fatalf("%.40q was changed to %.40q", b, in[:len(b)+2])
	}
}

// spoil changes all octets of b, up to what is behind it.
func spoil(b []byte) {
	b = b[:cap(b)]
	for i := range b {
		b[i] ^= 85
	}
}

// wantKeys looks which keys renew a state, that nothing is changed, and that what is answered shares nothing.
func wantKeys(t *testing.T, x api.Table, s api.State, want string) {
	t.Helper()
	in := sparedState(s)
	got := renew.Keys(x, in)
	if string(got) != want {
		t.Fatalf("Keys of %s: %.60q (%d); want %.60q (%d)", brief(s), got, len(got), want, len(want))
	}
	wantAsItWas(t, in.L.B, s.L.B)
	again := renew.Keys(x, in)
	spoil(got)
	wantAsItWas(t, in.L.B, s.L.B)
	if string(again) != want {
		t.Fatalf("Keys of %s: two answers share their octets, or differ", brief(s))
	}
}

// wantRenewed looks that from the zero state the keys that renew s lead to it, and to nothing else, and how many they are.
func wantRenewed(t *testing.T, x api.Table, room int, s api.State) {
	t.Helper()
	keys := renew.Keys(x, s)
	got, events, bells := editor.Play(x, room, api.State{}, keys)
	if !sameState(got, s) || len(events) != 0 || bells != 0 {
		t.Fatalf("%.60q, room %d: %s, %d events, %d bells; want %s", keys, room, brief(got), len(events), bells, brief(s))
	}
	wantFew(t, s, keys)
}

func wantFew(t *testing.T, s api.State, keys []byte) {
	t.Helper()
	if len(keys) > 3*len(s.L.B)+2 {
		t.Fatalf("%d keys renew %s", len(keys), brief(s))
	}
}

// The numbers that the chapter leans on.
func TestNumbers(t *testing.T) {
	got := []int{api.LnextF, api.Forw1F, api.Forw2F, api.McLF, api.McWlF, api.McBolF, api.OverF, api.EnterF, api.MaxLine}
	if want := []int{14, 17, 18, 19, 21, 23, 26, 31, 4096}; !slices.Equal(got, want) {
		t.Errorf("%v; want %v", got, want)
	}
}

// The chapter's three examples.
func TestExamples(t *testing.T) {
	s := table.Standard()
	wantKeys(t, s, stateOf("ab", 2), "ab")
	wantKeys(t, s, stateOf("ab", 1), "b\x01a")
	wantKeys(t, s, set(stateOf("\x03", 1), true, false), "\x16\x03\x10")
}

// P14.1: Plain of each key by the standard table, by that with a key for each function, and by the one without any.
func TestPlainByHand(t *testing.T) {
	for _, k := range allKeys() {
		meant := strings.IndexByte(standardMeant, k) >= 0
		for _, c := range []struct {
			x    api.Table
			want bool
		}{
			{table.Standard(), !meant},
			{full(), !meant && k != 200 && k != 201 && k != 202},
			{api.Table{}, k != 13},
		} {
			if renew.Plain(c.x, k) != c.want {
				t.Errorf("Plain of %d: %v", k, !c.want)
			}
		}
	}
}

// P14.1: a key of each function by itself: those of Forw1F and Forw2F alone are plain.
func TestPlainOfEachFunction(t *testing.T) {
	for f := 1; f <= 30; f++ {
		for _, level := range []int{api.CantChange, api.Value} {
			for _, k := range allKeys() {
				x := with(api.Table{}, map[int]api.Cell{f: {Level: level, V: k}})
				for _, other := range []byte{k - 1, k, k + 1} {
					want := other != 13 && (other != k || f == 17 || f == 18)
					if renew.Plain(x, other) != want {
						t.Fatalf("Plain of %d, where %d is the key of %d: %v", other, k, f, !want)
					}
				}
			}
		}
	}
}

// P14.1: of two functions with one key it is the lower one that tells whether that is plain.
func TestPlainOfTwoFunctions(t *testing.T) {
	for f := 1; f <= 30; f++ {
		for g := f + 1; g <= 30; g++ {
			x := keyed(keyed(api.Table{}, f, 'k'), g, 'k')
			if want := f == 17 || f == 18; renew.Plain(x, 'k') != want {
				t.Errorf("Plain of a key of %d and %d: %v", f, g, !want)
			}
		}
	}
	s := table.Standard()
	if renew.Plain(keyed(s, api.Forw1F, 3), 3) || renew.Plain(keyed(s, api.Forw2F, 13), 13) || !renew.Plain(keyed(s, api.Forw2F, 1), 1) {
		t.Error("Plain of a key that a function has beside Forw1F or Forw2F")
	}
}

// P14.1: Plain of each key by whatever table.
func TestPlainByRule(t *testing.T) {
	for i, x := range slices.Concat(tables(), oddTables()) {
		for _, k := range allKeys() {
			if want := plain(x, k); renew.Plain(x, k) != want {
				t.Errorf("table %d: Plain of %d: %v", i, k, !want)
			}
		}
	}
}

// P14.1: Plain by tables that may not be: cell 0 is no function's, a key of NoSupport is none, each other level is one.
func TestPlainByOddTables(t *testing.T) {
	x := with(table.Standard(), map[int]api.Cell{0: {Level: api.Value, V: 'a'}, api.EcF: {Level: 99, V: 'q'}, api.IpF: {V: 'z'}, api.Forw1F: {Level: -1, V: 'f'}, api.ElF: {Level: math.MinInt, V: 'm'}})
	for k, want := range map[byte]bool{'a': true, 'q': false, 'z': true, 'f': true, 'm': false, 3: true, 21: true, 127: true, 22: false, 13: false} {
		if renew.Plain(x, k) != want {
			t.Errorf("Plain of %d: %v", k, !want)
		}
	}
	wantKeys(t, x, stateOf("aqzfm\x03", 6), "a\x16qzf\x16m\x03")
	wantKeys(t, x, stateOf("aqz", 1), "\x16qz\x01a")
}

// P14.1: nothing renews the zero state, and Over and Lit alone have a key each.
func TestZeroState(t *testing.T) {
	for _, x := range slices.Concat(tables(), oddTables()) {
		wantKeys(t, x, api.State{}, "")
		wantKeys(t, x, stateOf("", 0), "")
	}
	s := table.Standard()
	wantKeys(t, s, api.State{Over: true}, "\x10")
	wantKeys(t, s, api.State{Lit: true}, "\x16")
	wantKeys(t, s, api.State{Over: true, Lit: true}, "\x10\x16")
}

// P14.1: lines of plain octets and of others, by the standard table, written out by hand.
func TestKeysByHand(t *testing.T) {
	s := table.Standard()
	for _, c := range []struct {
		line string
		at   int
		want string
	}{
		{"a", 1, "a"}, {"a", 0, "a\x01"}, {" ", 1, " "}, {"\x00\xff", 2, "\x00\xff"}, {"\x00\xff", 0, "\x00\xff\x01"},
		{"abc", 3, "abc"}, {"abc", 2, "c\x01ab"}, {"abc", 1, "bc\x01a"}, {"abc", 0, "abc\x01"},
		{"\x03", 1, "\x16\x03"}, {"\x03", 0, "\x16\x03\x01"},
		{"\x0d", 1, "\x16\x0d"}, {"\x0d", 0, "\x16\x0d\x01"},
		{"\x16", 1, "\x16\x16"}, {"\x16\x16", 1, "\x16\x16\x01\x16\x16"},
		{"\x01", 1, "\x16\x01"}, {"\x01\x01", 1, "\x16\x01\x01\x16\x01"},
		{"\x10a", 1, "a\x01\x16\x10"}, {"a\x10", 1, "\x16\x10\x01a"},
		{"a\x03b\x7fc", 5, "a\x16\x03b\x16\x7fc"}, {"a\x03b\x7fc", 3, "\x16\x7fc\x01a\x16\x03b"}, {"a\x03b\x7fc", 0, "a\x16\x03b\x16\x7fc\x01"},
		{"ab  cd\tef", 4, "cd\x16\tef\x01ab  "},
	} {
		wantKeys(t, s, stateOf(c.line, c.at), c.want)
		wantKeys(t, s, set(stateOf(c.line, c.at), true, false), c.want+"\x10")
		wantKeys(t, s, set(stateOf(c.line, c.at), false, true), c.want+"\x16")
		wantKeys(t, s, set(stateOf(c.line, c.at), true, true), c.want+"\x10\x16")
	}
}

// P14.1: each octet by itself, ahead of At and behind it, by the standard table.
func TestEachOctet(t *testing.T) {
	for _, k := range allKeys() {
		told := string([]byte{k})
		if strings.Contains(standardMeant, told) {
			told = "\x16" + told
		}
		line := string([]byte{k, 'x', k})
		wantKeys(t, table.Standard(), stateOf(line, 3), told+"x"+told)
		wantKeys(t, table.Standard(), stateOf(line, 2), told+"\x01"+told+"x")
		wantKeys(t, table.Standard(), stateOf(line, 0), told+"x"+told+"\x01")
	}
}

// P14.1: keys of Forw1F and Forw2F are told by themselves.
func TestForwardingOctets(t *testing.T) {
	x := full()
	wantKeys(t, x, stateOf(";:", 2), ";:")
	wantKeys(t, x, stateOf("a;b:", 2), "b:\x01a;")
	wantKeys(t, x, stateOf("\xc8;\xc9:\xca", 5), "\x16\xc8;\x16\xc9:\x16\xca")
	wantKeys(t, keyed(keyed(x, api.Forw1F, 22), api.McLF, ':'), stateOf("\x16:", 2), "\x16\x16:")
}

// P14.1: which move is taken where some have no key, and how often; none where there is nothing behind At.
func TestMoves(t *testing.T) {
	s := table.Standard()
	left := without(s, api.McBolF)
	word := without(s, api.McBolF, api.McLF)
	none := without(s, api.McBolF, api.McLF, api.McWlF)
	for _, c := range []struct {
		x               api.Table
		one, two, three string
	}{
		{s, "\x01", "\x01", "\x01"},
		{without(s, api.McLF), "\x01", "\x01", "\x01"},
		{without(s, api.McLF, api.McWlF), "\x01", "\x01", "\x01"},
		{left, "\x02", "\x02\x02", "\x02\x02\x02"},
		{without(s, api.McBolF, api.McWlF), "\x02", "\x02\x02", "\x02\x02\x02"},
		{word, "\x19", "\x19\x19", "\x19\x19\x19"},
		{none, "", "", ""},
		{keyed(left, api.McLF, 'q'), "q", "qq", "qqq"},
		{keyed(word, api.McWlF, 0), "\x00", "\x00\x00", "\x00\x00\x00"},
	} {
		wantKeys(t, c.x, stateOf("abc", 3), "abc")
		wantKeys(t, c.x, stateOf("abc", 2), "c"+c.one+"ab")
		wantKeys(t, c.x, stateOf("abc", 1), "bc"+c.two+"a")
		wantKeys(t, c.x, stateOf("abc", 0), "abc"+c.three)
		wantKeys(t, c.x, stateOf("\x03\x0d", 2), "\x16\x03\x16\x0d")
		wantKeys(t, c.x, stateOf("\x03\x0d", 1), "\x16\x0d"+c.one+"\x16\x03")
		wantKeys(t, c.x, stateOf("\x03\x0d", 0), "\x16\x03\x16\x0d"+c.two)
		wantKeys(t, c.x, stateOf("a\x03\x0dd", 1), "\x16\x03\x16\x0dd"+c.three+"a")
		wantKeys(t, c.x, set(stateOf("ab cd", 2), true, true), " cd"+c.three+"ab\x10\x16")
		wantKeys(t, c.x, set(stateOf("", 0), true, true), "\x10\x16")
	}
}

// P14.1: moves that the chapter does not name are none.
func TestOtherMoves(t *testing.T) {
	x := api.Table{}
	for _, f := range []int{api.McRF, api.McWrF, api.McEolF, api.EcF, api.ElF, api.EwF, api.InsrtF, api.EbolF} {
		x = keyed(x, f, byte(100+f))
	}
	wantKeys(t, x, set(stateOf("ABC", 1), true, true), "BCA")
}

// P14.1: OverF and LnextF without a key are left out, at the end and ahead of octets.
func TestLeftOut(t *testing.T) {
	s := table.Standard()
	over, next := without(s, api.OverF), without(s, api.LnextF)
	neither := without(s, api.OverF, api.LnextF)
	line := "a\x03\x0d\x16"
	for _, c := range []struct {
		x         api.Table
		over, lit bool
		want      string
	}{
		{over, true, false, "a\x16\x03\x16\x0d\x16\x16"}, {over, false, true, "a\x16\x03\x16\x0d\x16\x16\x16"}, {over, true, true, "a\x16\x03\x16\x0d\x16\x16\x16"},
		{next, true, false, "a\x03\x0d\x16\x10"}, {next, false, true, "a\x03\x0d\x16"}, {next, true, true, "a\x03\x0d\x16\x10"},
		{neither, true, false, "a\x03\x0d\x16"}, {neither, false, true, "a\x03\x0d\x16"}, {neither, true, true, "a\x03\x0d\x16"},
	} {
		wantKeys(t, c.x, set(stateOf(line, 4), c.over, c.lit), c.want)
	}
	wantKeys(t, next, stateOf("a\x03\x0d", 1), "\x03\x0d\x01a")
	wantKeys(t, api.Table{}, set(stateOf("a\x0d\x01", 1), true, true), "\x0d\x01a")
}

// P14.1: a key that two functions have is the lower one's; the higher one has none, nor has one whose cell is 13.
func TestSharedKeys(t *testing.T) {
	s := table.Standard()
	all := set(stateOf("a\x03bc", 2), true, true)
	for _, c := range []struct {
		x    api.Table
		want string
	}{
		{s, "bc\x01a\x16\x03\x10\x16"},
		{keyed(s, api.McBolF, 127), "bc\x02\x02a\x16\x03\x10\x16"},
		{keyed(s, api.McBolF, 13), "bc\x02\x02a\x16\x03\x10\x16"},
		{keyed(s, api.McBolF, 2), "bc\x02\x02a\x16\x03\x10\x16"},
		{keyed(keyed(s, api.McBolF, 13), api.McLF, 13), "bc\x19\x19a\x16\x03\x10\x16"},
		{keyed(keyed(s, api.McBolF, 25), api.McLF, 22), "bc\x19\x19a\x16\x03\x10\x16"},
		{keyed(keyed(keyed(s, api.McBolF, 13), api.McLF, 3), api.McWlF, 22), "bca\x16\x03\x10\x16"},
		{keyed(s, api.OverF, 9), "bc\x01a\x16\x03\x16"},
		{keyed(s, api.OverF, 13), "bc\x01a\x16\x03\x16"},
		{keyed(s, api.LnextF, 3), "bc\x01a\x03\x10"},
		{keyed(s, api.LnextF, 13), "bc\x01a\x03\x10"},
		{keyed(s, api.RpF, 22), "bc\x01a\x03\x10"},
		{keyed(s, api.McBolF, 22), "bc\x02\x02a\x16\x03\x10\x16"},
		{keyed(s, api.OverF, 22), "bc\x01a\x16\x03\x16"},
		{keyed(s, api.LnextF, 'b'), "bbc\x01ab\x03\x10b"},
		{keyed(s, api.Forw1F, 1), "bc\x02\x02a\x16\x03\x10\x16"},
	} {
		wantKeys(t, c.x, all, c.want)
	}
}

// P14.1: the least key and the greatest one are keys as all others are.
func TestKeysAtTheEnds(t *testing.T) {
	s := table.Standard()
	all := set(stateOf("a\x03\x00\xff", 2), true, true)
	for _, c := range []struct {
		x    api.Table
		want string
	}{
		{s, "\x00\xff\x01a\x16\x03\x10\x16"},
		{keyed(s, api.McBolF, 0), "\x16\x00\xff\x00a\x16\x03\x10\x16"},
		{keyed(s, api.McBolF, 255), "\x00\x16\xff\xffa\x16\x03\x10\x16"},
		{keyed(s, api.OverF, 0), "\x16\x00\xff\x01a\x16\x03\x00\x16"},
		{keyed(s, api.OverF, 255), "\x00\x16\xff\x01a\x16\x03\xff\x16"},
		{keyed(s, api.LnextF, 0), "\x00\x00\xff\x01a\x00\x03\x10\x00"},
		{keyed(s, api.LnextF, 255), "\x00\xff\xff\x01a\xff\x03\x10\xff"},
	} {
		wantKeys(t, c.x, all, c.want)
		wantRenewed(t, c.x, 4, all)
	}
}

// P14.1: of many states, by whatever table.
func TestKeysByRule(t *testing.T) {
	for _, x := range slices.Concat(tables(), oddTables()) {
		keys := rule(x)
		for _, s := range slices.Concat(states(), longStates()) {
			wantKeys(t, x, s, keys(s))
			wantFew(t, s, renew.Keys(x, s))
		}
	}
}

// P14.1: a line of 4096 octets, with as many keys as there may be, and with as few.
func TestLongLine(t *testing.T) {
	s := table.Standard()
	for _, c := range []struct {
		x     api.Table
		octet byte
		at    int
		want  int
	}{
		{s, 'a', 4096, 4096 + 2}, {s, 'a', 4095, 4096 + 1 + 2}, {s, 'a', 0, 4096 + 1 + 2},
		{s, 13, 4096, 2*4096 + 2}, {s, 13, 1, 2*4096 + 1 + 2},
		{without(s, api.McBolF), 13, 0, 3*4096 + 2}, {without(s, api.McBolF, api.McLF), 22, 0, 3*4096 + 2},
		{without(s, api.McBolF), 'a', 2048, 4096 + 2048 + 2}, {api.Table{}, 13, 0, 4096},
	} {
		long := set(api.State{L: api.Line{B: bytes.Repeat([]byte{c.octet}, 4096), At: c.at}}, true, true)
		wantKeys(t, c.x, long, rule(c.x)(long))
		if n := len(renew.Keys(c.x, long)); n != c.want {
			t.Errorf("%d keys renew a long line of %d, At %d; want %d", n, c.octet, c.at, c.want)
		}
	}
}

// P14.1: nothing renews a state that may not be.
func TestOddStates(t *testing.T) {
	for _, x := range []api.Table{{}, table.Standard(), full(), oddTables()[0]} {
		for _, s := range oddStates() {
			wantKeys(t, x, s, "")
		}
	}
}

// P14.2: long lines that may be, by tables by which there are keys that lead to them.
func TestRenewsLongLines(t *testing.T) {
	s := table.Standard()
	for _, x := range []api.Table{s, full(), without(s, api.McBolF), without(s, api.McBolF, api.McLF)} {
		for _, long := range longStates() {
			for _, room := range []int{4096, math.MaxInt} {
				wantRenewed(t, x, room, long)
			}
			wantRenewed(t, x, len(long.L.B), long)
		}
	}
}

// place is a state that maps take as a key.
type place struct {
	b         string
	at        int
	over, lit bool
}

func placeOf(s api.State) place {
	return place{string(s.L.B), s.L.At, s.Over, s.Lit}
}

// reached are all states to which keys out of these lead from the zero one.
func reached(x api.Table, room int, keys []byte) []api.State {
	been := map[place]bool{placeOf(api.State{}): true}
	l := []api.State{{}}
	for i := 0; i < len(l); i++ {
		for _, k := range keys {
			s, _, _ := editor.Key(x, room, l[i], k)
			if p := placeOf(s); !been[p] {
				been[p] = true
				l = append(l, s)
			}
		}
	}
	return l
}

// few is a table of few functions, some of which have no key by the bits of a number.
func few(bits int) api.Table {
	x := api.Table{}
	for f, k := range map[int]byte{api.IpF: 'i', api.EcF: 'e', api.McRF: 'r', api.McWrF: 'n', api.InsrtF: 'o'} {
		x = keyed(x, f, k)
	}
	for i, f := range []int{api.LnextF, api.OverF, api.McBolF, api.McLF, api.McWlF} {
		if bits>>i&1 == 1 {
			x = keyed(x, f, "LOBCW"[i])
		}
	}
	return x
}

// P14.2: each state to which keys lead with little room, whichever of the functions that renewing needs have a key.
func TestRenewsAllThatIsReached(t *testing.T) {
	keys := []byte("a ieorn\x0dLOBCW")
	for bits := range 32 {
		for _, room := range []int{0, 1, 2} {
			for _, s := range reached(few(bits), room, keys) {
				wantRenewed(t, few(bits), room, s)
				wantRenewed(t, few(bits), len(s.L.B), s)
				wantRenewed(t, few(bits), room+1, s)
			}
		}
	}
	for _, s := range reached(few(31), 3, []byte("a eLOBr")) {
		wantRenewed(t, few(31), 3, s)
	}
}

// someKeys are keys of all kinds for a table: most are typed, some do something, few end the line.
func someKeys(x api.Table, seed, n int) []byte {
	pick := picks(seed)
	var keys []byte
	for range n {
		switch c := pick(40); {
		case c < 20:
			keys = append(keys, "abc \t;:"[pick(7)])
		case c < 31:
			keys = append(keys, x[10+pick(21)].V)
		case c < 35:
			keys = append(keys, x[api.LnextF].V, x[1+pick(30)].V)
		case c < 39:
			keys = append(keys, byte(pick(256)))
		default:
			keys = append(keys, x[1+pick(9)].V)
		}
	}
	return keys
}

// kinds counts states by what they have.
type kinds struct {
	behind, over, lit, meant, full, all int
}

func (n *kinds) count(x api.Table, room int, s api.State) {
	n.all++
	if s.L.At < len(s.L.B) {
		n.behind++
	}
	if s.Over {
		n.over++
	}
	if s.Lit {
		n.lit++
	}
	if slices.ContainsFunc(s.L.B, func(c byte) bool { return !plain(x, c) }) {
		n.meant++
	}
	if room > 0 && len(s.L.B) == room {
		n.full++
	}
}

// P14.2: each state that keys come through, with moves, erasures, octets typed over and events on the way, by whatever table, with whatever room.
func TestRenewsWhatKeysLeadTo(t *testing.T) {
	for i, x := range slices.Concat(tables(), oddTables()) {
		var n kinds
		for j, room := range []int{math.MinInt, -1, 0, 1, 2, 5, 12, 80, 4096, 4097, math.MaxInt} {
			for seed := range 6 {
				s := api.State{}
				for _, k := range someKeys(x, i*1000+j*10+seed, 80) {
					s, _, _ = editor.Key(x, room, s, k)
					wantRenewed(t, x, room, s)
					wantRenewed(t, x, len(s.L.B), s)
					n.count(x, room, s)
				}
			}
		}
		// By the standard table all kinds are come through: else what is looked at here would say little.
		if x == table.Standard() && min(n.behind, n.over, n.lit, n.meant, n.full) < n.all/50 {
			t.Errorf("of %d states few are of some kind: %+v", n.all, n)
		}
	}
}

// P14.2: keys written out by hand, with room that they fill just so.
func TestRenewsByHand(t *testing.T) {
	for _, c := range []struct {
		keys string
		room int
		want string
	}{
		{"ab\x02c", 3, "b\x01ac"}, {"ab\x01\x10c", 2, "b\x01c\x10"}, {"a\x16\x16\x16", 2, "a\x16\x16\x16"},
		{"abc\x0dd\x02", 3, "d\x01"}, {"abc\x03", 3, ""}, {"ab cd\x19\x19x", 6, "ab cd\x01x"},
		{"ab cd\x19x\x17", 6, "cd\x01ab "}, {"abc\x02\x02\x7f", 3, "bc\x01"}, {"abcd", 2, "ab"}, {"\x10abc\x02\x02\x16\x01\x16", 3, "c\x01a\x16\x01\x10\x16"},
		{"ab\x10\x01x\x09y", 2, "b\x01x"}, {"a\x0fb\x14", 2, "ab"}, {"a\x16\x0d\x02", 2, "\x16\x0d\x01a"}, {"ab", 0, ""}, {"ab\x10\x16", -5, "\x10\x16"},
	} {
		s, _, _ := editor.Play(table.Standard(), c.room, api.State{}, []byte(c.keys))
		wantKeys(t, table.Standard(), s, c.want)
		wantRenewed(t, table.Standard(), c.room, s)
	}
}
