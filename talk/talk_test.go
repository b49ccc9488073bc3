package talk_test

import (
	"bytes"
	"fmt"
	"math"
	"slices"
	"strings"
	"testing"

	"linnet/api"
	"linnet/editor"
	"linnet/renew"
	"linnet/table"
	"linnet/talk"
)

var both = []bool{false, true}

// rooms are none, few, as many as a line may have, and more.
var rooms = []int{math.MinInt, -1, 0, 1, 2, 5, 12, 80, 4096, 4097, math.MaxInt}

func stateOf(s string, at int) api.State {
	return api.State{L: api.Line{B: []byte(s), At: at}}
}

func set(s api.State, over, lit bool) api.State {
	s.Over, s.Lit = over, lit
	return s
}

// line is the state behind octets that were typed, one behind the other.
func line(s string) api.State { return stateOf(s, len(s)) }

func held(s api.State) api.Talk  { return api.Talk{S: s, Held: true} }
func known(s api.State) api.Talk { return api.Talk{S: s} }

// picks are numbers that look like chance, and are the same each time.
func picks(seed int) func(below int) int {
	x := uint32(seed)*2654435761 + 12345
	return func(below int) int {
		x = x*1664525 + 1013904223
		return int(x>>8) % below
	}
}

func chance(seed, n int, some string) []byte {
	pick := picks(seed)
	b := make([]byte, n)
	for i := range b {
		b[i] = some[pick(len(some))]
	}
	return b
}

// with is a table with other cells, whether it may be or not.
func with(t api.Table, cells map[int]api.Cell) api.Table {
	for f, c := range cells {
		t[f] = c
	}
	return t
}

// without is a table in which these have no key.
func without(t api.Table, l ...int) api.Table {
	for _, f := range l {
		t[f] = api.Cell{}
	}
	return t
}

// keyed is a table in which a function's key is another one.
func keyed(t api.Table, f int, key byte) api.Table {
	t[f] = api.Cell{Level: api.Value, V: key}
	return t
}

// full is the standard table with a key for each function that has none there.
func full() api.Table {
	return with(table.Standard(), map[int]api.Cell{
		api.SynchF: {Level: api.CantChange, V: 200}, api.BrkF: {Level: api.Value, V: 201}, api.EorF: {Level: api.CantChange, V: 202},
		api.Forw1F: {Level: api.Value, V: ';'}, api.Forw2F: {Level: api.CantChange, V: ':'},
	})
}

// tables are some that may be: other keys for what there is, one key for two functions, no key at all.
func tables() []api.Table {
	s := table.Standard()
	l := []api.Table{
		{}, s, full(),
		without(full(), api.McBolF), without(full(), api.McBolF, api.McLF), without(full(), api.LnextF), without(full(), api.OverF),
		with(s, map[int]api.Cell{api.EcF: {Level: api.Value, V: 'a'}, api.IpF: {}, api.LnextF: {Level: api.CantChange, V: 'b'}}),
		with(s, map[int]api.Cell{api.ElF: {Level: api.Value, V: 127}, api.Forw1F: {Level: api.Value, V: 3}, api.OverF: {Level: api.Value, V: 9}}),
		with(s, map[int]api.Cell{api.IpF: {Level: api.Value, V: 13}, api.AytF: {Level: api.Value, V: 4}, api.SuspF: {Level: api.Value, V: 22}, api.EcF: {}}),
	}
	for seed := range 9 {
		t := api.Table{}
		pick := picks(seed)
		for f := 1; f <= 30; f++ {
			if level := pick(3); level > 0 {
				t[f] = api.Cell{Level: level, V: byte(pick([]int{256, 40, 130}[seed%3]))}
			}
		}
		l = append(l, t)
	}
	return l
}

// oddTables may not be: a level that there is not, a key without a level, something in cell 0.
func oddTables() []api.Table {
	s := table.Standard()
	return []api.Table{
		with(s, map[int]api.Cell{api.BrkF: {Level: 3, V: 'a'}, api.McBolF: {Level: -1, V: 'b'}}),
		with(s, map[int]api.Cell{api.LnextF: {V: 22}, api.OverF: {V: 16}, api.IpF: {V: 3}, api.AytF: {Level: 1 << 32, V: 'c'}}),
		with(s, map[int]api.Cell{0: {Level: 2, V: 'a'}, api.SynchF: {Level: math.MaxInt, V: 'c'}, api.Forw1F: {Level: math.MinInt, V: ' '}}),
		with(api.Table{}, map[int]api.Cell{0: {Level: 2, V: 3}, api.LnextF: {Level: math.MinInt, V: 'b'}, api.EofF: {Level: 4, V: 'a'}}),
	}
}

func allTables() []api.Table {
	return slices.Concat(tables(), oddTables())
}

// talks are those of the states, Held and not.
func talks(states ...api.State) []api.Talk {
	var l []api.Talk
	for _, s := range states {
		l = append(l, held(s), known(s))
	}
	return l
}

// states are some that may be, with At at each place, and with Over and Lit set and not.
func states() []api.State {
	var l []api.State
	for _, s := range []string{"", "a", "\x03", "ab  cd ", "\x0d\x16\x7f;\x00\xff"} {
		for at := range len(s) + 1 {
			for _, over := range both {
				for _, lit := range both {
					l = append(l, set(stateOf(s, at), over, lit))
				}
			}
		}
	}
	return l
}

// longStates have as many octets as there may be, or nearly.
func longStates() []api.State {
	var l []api.State
	for _, n := range []int{4095, 4096} {
		for _, some := range []string{"ab \t", "a\x03\x0d\x16"} {
			for i, at := range []int{0, 1, n - 1, n} {
				l = append(l, set(api.State{L: api.Line{B: chance(n, n, some), At: at}}, i%2 == 0, i%3 == 0))
			}
		}
	}
	return l
}

// oddStates may not be: by At, by how many octets there are.
func oddStates() []api.State {
	wide := []int{-2, -255, -256, -4096, -65536, 257, 4097, 8192, 65536, 65537, -1 << 31, 1 << 31, 1 << 32, 1<<32 + 1, -1 << 32, math.MaxInt, math.MinInt, math.MinInt + 1}
	var l []api.State
	for i, over := range both {
		for j, lit := range both {
			for _, n := range []int{0, 1, 5, 4096} {
				for _, at := range append([]int{-1, n + 1}, wide...) {
					if at < 0 || at > n {
						l = append(l, set(api.State{L: api.Line{B: chance(i+j, n, "abc \t\x03"), At: at}}, over, lit))
					}
				}
			}
			for _, n := range []int{4097, 8192, 65536} {
				for _, at := range []int{math.MinInt, -1, 0, 4096, n, n + 1, math.MaxInt} {
					l = append(l, set(api.State{L: api.Line{B: chance(i+j, n, "abc \t\x03"), At: at}}, over, lit))
				}
			}
		}
	}
	return l
}

// meaning goes from the highest function down: the last one that is found is the lowest.
func meaning(t api.Table, k byte) int {
	f := 0
	for g := 30; g >= 1; g-- {
		if t[g].Level != 0 && t[g].V == k {
			f = g
		}
	}
	if k == 13 {
		f = 31
	}
	return f
}

func isZero(s api.State) bool {
	return len(s.L.B) == 0 && s.L.At == 0 && !s.Over && !s.Lit
}

// what is how a key is typed: whether it is edited, and whether it forwards.
type what struct{ edit, forward bool }

// hows are all of them, by the letters that tests write: e it is edited, f it forwards, too, r it is not edited, g it would forward.
var hows = map[byte]what{'e': {true, false}, 'f': {true, true}, 'r': {false, false}, 'g': {false, true}}

// rule is what the chapter says of a key, in the chapter's order; what an editor comes to, and what renews a state, are the layers' below.
func rule(x api.Table, room int, k api.Talk, key byte, how what) (api.Talk, api.Typed) {
	behind, events, bell := editor.Key(x, room, k.S, key)
	stays := false
	var passed []byte
	typed := -1 // where the key stands among those that are passed on
	if !how.edit {
		if k.Held {
			passed = renew.Keys(x, k.S)
		}
		typed = len(passed)
		passed = append(passed, key)
	} else if !k.Held && !isZero(k.S) {
		typed = len(passed)
		passed = append(passed, key)
	} else if len(events) > 0 {
		passed = renew.Keys(x, k.S)
		typed = len(passed)
		passed = append(passed, key)
	} else if how.forward && !isZero(behind) {
		passed = renew.Keys(x, behind)
	} else {
		stays = true
	}
	out := api.Typed{Keys: passed, Bell: bell}
	if f := meaning(x, key); typed >= 0 && typed == len(passed)-1 && f >= 1 && f <= 9 && !k.S.Lit {
		out.Signal = f
	}
	return api.Talk{S: behind, Held: stays}, out
}

// brief is as much of a talk as a message needs.
func brief(k api.Talk) string {
	return fmt.Sprintf("%.40q (%d), At %d, Over %v, Lit %v, Held %v", k.S.L.B, len(k.S.L.B), k.S.L.At, k.S.Over, k.S.Lit, k.Held)
}

func briefTyped(x api.Typed) string {
	return fmt.Sprintf("%.60q (%d), the signal %d, bell %v", x.Keys, len(x.Keys), x.Signal, x.Bell)
}

func sameState(a, b api.State) bool {
	return bytes.Equal(a.L.B, b.L.B) && a.L.At == b.L.At && a.Over == b.Over && a.Lit == b.Lit
}

func sameTalk(a, b api.Talk) bool {
	return sameState(a.S, b.S) && a.Held == b.Held
}

func sameTyped(a, b api.Typed) bool {
	return bytes.Equal(a.Keys, b.Keys) && a.Signal == b.Signal && a.Bell == b.Bell
}

func sameEvents(a, b []api.Event) bool {
	return slices.EqualFunc(a, b, func(x, y api.Event) bool {
		return x.Kind == y.Kind && x.F == y.F && bytes.Equal(x.B, y.B)
	})
}

// spared is a talk whose octets have memory of their own, with more behind them that is not theirs.
func spared(k api.Talk) api.Talk {
	b := k.S.L.B
	k.S.L.B = append(append(make([]byte, 0, len(b)+2), b...), 201, 202)[:len(b)]
	return k
}

// wantAsItWas looks that what spared made of k is as it was.
func wantAsItWas(t *testing.T, in, k api.Talk) {
	t.Helper()
	b := in.S.L.B
	if !sameTalk(in, k) || !bytes.Equal(b[:len(b)+2][len(b):], []byte{201, 202}) {
		t.Fatalf("%s was changed to %s", brief(k), brief(in))
	}
}

// wantApart looks that of these rows none has memory that another one has, each up to what is behind it.
func wantApart(t *testing.T, r ...[]byte) {
	t.Helper()
	for i, a := range r {
		for _, b := range r[i+1:] {
			if a, b = a[:cap(a)], b[:cap(b)]; len(a) == 0 || len(b) == 0 {
				continue
			}
			was := bytes.Clone(b)
			for j := range a {
				a[j]++
			}
			if !bytes.Equal(b, was) {
				t.Fatalf("octets that come to %.40q are had by two", a)
			}
			for j := range a {
				a[j]--
			}
		}
	}
}

// wantTyped looks what comes of a key, that nothing is changed, and that what is answered shares nothing.
func wantTyped(t *testing.T, x api.Table, room int, k api.Talk, key byte, how what, want api.Talk, out api.Typed) {
	t.Helper()
	in := spared(k)
	got, typed := talk.Type(x, room, in, key, how.edit, how.forward)
	if !sameTalk(got, want) || !sameTyped(typed, out) {
		t.Fatalf("Type of %d, %+v, room %d, %s: %s; %s; want %s; %s", key, how, room, brief(k), brief(got), briefTyped(typed), brief(want), briefTyped(out))
	}
	wantAsItWas(t, in, k)
	again, more := talk.Type(x, room, in, key, how.edit, how.forward)
	wantApart(t, in.S.L.B, got.S.L.B, typed.Keys, again.S.L.B, more.Keys)
	if !sameTalk(again, want) || !sameTyped(more, out) {
		t.Fatalf("Type of %d, %+v, room %d, %s, asked twice: %s; %s", key, how, room, brief(k), brief(again), briefTyped(more))
	}
}

// wantPassed looks the same of Pass.
func wantPassed(t *testing.T, x api.Table, k, want api.Talk, out string) {
	t.Helper()
	in := spared(k)
	got, keys := talk.Pass(x, in)
	if !sameTalk(got, want) || string(keys) != out {
		t.Fatalf("Pass of %s: %s; %.60q (%d); want %s; %.60q (%d)", brief(k), brief(got), keys, len(keys), brief(want), out, len(out))
	}
	wantAsItWas(t, in, k)
	again, more := talk.Pass(x, in)
	wantApart(t, in.S.L.B, got.S.L.B, keys, again.S.L.B, more)
	if !sameTalk(again, want) || string(more) != out {
		t.Fatalf("Pass of %s, asked twice of one talk: %s; %.60q", brief(k), brief(again), more)
	}
}

// The numbers that the chapter writes out.
func TestNumbers(t *testing.T) {
	got := []int{api.SynchF, api.BrkF, api.IpF, api.AoF, api.AytF, api.EorF, api.AbortF, api.EofF, api.SuspF, api.EnterF, api.MaxLine}
	if want := []int{1, 2, 3, 4, 5, 6, 7, 8, 9, 31, 4096}; !slices.Equal(got, want) {
		t.Errorf("%v; want %v", got, want)
	}
}

// P15.1: a talk may be just if its state may be, Held or not.
func TestCheck(t *testing.T) {
	for _, k := range talks(slices.Concat(states(), longStates())...) {
		if e := talk.Check(k); e != api.OK {
			t.Errorf("Check of %s: %d", brief(k), e)
		}
	}
	for _, k := range talks(oddStates()...) {
		if e := talk.Check(k); e != api.ErrArg {
			t.Errorf("Check of %s: %d", brief(k), e)
		}
	}
}

func wantSame(t *testing.T, a, b api.Talk, want bool) {
	t.Helper()
	if talk.Same(a, b) != want || talk.Same(b, a) != want {
		t.Fatalf("Same of %s and %s: %v", brief(a), brief(b), !want)
	}
}

// P15.1: talks that differ in one part alone are not the same, whether they may be or not.
func TestSame(t *testing.T) {
	for _, k := range talks(slices.Concat(states(), longStates(), oddStates())...) {
		wantSame(t, k, spared(k), true)
		wantSame(t, k, api.Talk{S: k.S, Held: !k.Held}, false)
		wantSame(t, k, api.Talk{S: set(k.S, !k.S.Over, k.S.Lit), Held: k.Held}, false)
		wantSame(t, k, api.Talk{S: set(k.S, k.S.Over, !k.S.Lit), Held: k.Held}, false)
		for _, n := range []int{-1, 1, 1 << 32, math.MinInt} {
			other := k
			other.S.L.At += n
			wantSame(t, k, other, false)
		}
		longer := spared(k)
		longer.S.L.B = append(longer.S.L.B, 0)
		wantSame(t, k, longer, false)
		for _, place := range []int{0, len(k.S.L.B) / 2, len(k.S.L.B) - 1} {
			if len(k.S.L.B) == 0 {
				break
			}
			other := spared(k)
			other.S.L.B[place]++
			wantSame(t, k, other, false)
		}
	}
	wantSame(t, api.Talk{}, known(api.State{L: api.Line{B: []byte{}}}), true)
	wantSame(t, api.Talk{}, held(api.State{}), false)
}

// P15.1: what is passed on of talks by the standard table, written out by hand; asked again, nothing is.
func TestPassByHand(t *testing.T) {
	s := table.Standard()
	for _, c := range []struct {
		s    api.State
		want string
	}{
		{api.State{}, ""}, {line("a"), "a"}, {line("ab"), "ab"}, {stateOf("ab", 1), "b\x01a"}, {stateOf("ab", 0), "ab\x01"},
		{line("a\x03\x0d"), "a\x16\x03\x16\x0d"}, {set(line(""), true, false), "\x10"}, {set(line(""), false, true), "\x16"},
		{set(stateOf("\x7fb", 1), true, true), "b\x01\x16\x7f\x10\x16"}, {set(line("\x03"), true, false), "\x16\x03\x10"},
	} {
		wantPassed(t, s, held(c.s), known(c.s), c.want)
		wantPassed(t, s, known(c.s), known(c.s), "")
	}
}

// P15.1: Pass of many talks, by whatever table: the keys are those that renew the state, if it is Held.
func TestPassByRule(t *testing.T) {
	for _, x := range allTables() {
		for _, s := range slices.Concat(states(), longStates()) {
			wantPassed(t, x, held(s), known(s), string(renew.Keys(x, s)))
			wantPassed(t, x, known(s), known(s), "")
		}
	}
}

// P15.1: Pass asked twice, of the talk that it answered: the second time nothing is passed on, and nothing is changed.
func TestPassTwice(t *testing.T) {
	for _, k := range talks(slices.Concat(states(), longStates(), oddStates())...) {
		first, _ := talk.Pass(full(), k)
		second, keys := talk.Pass(full(), first)
		if len(keys) != 0 || !sameTalk(second, first) {
			t.Fatalf("Pass of %s, asked again: %s; %.60q", brief(k), brief(second), keys)
		}
	}
}

// P15.1, P15.2: a talk that may not be comes back as it is, and nothing comes of it.
func TestOddTalks(t *testing.T) {
	for i, k := range talks(oddStates()...) {
		for _, x := range []api.Table{{}, full(), oddTables()[0]} {
			wantPassed(t, x, k, k, "")
		}
		for j, key := range []byte("a\x0d\x03\x04\x0f\x14\x15\x16\x10\xca") {
			for _, how := range hows {
				wantTyped(t, full(), rooms[(i+j)%len(rooms)], k, key, how, k, api.Typed{})
			}
		}
	}
}

// row is keys, how each is typed, what is passed on of each (with | between), where it ends, and the signal of the last key.
type row struct {
	keys, how, want string
	end             api.Talk
	signal          int
}

// wantRow looks at each key of a row, typed from the zero talk; of a row no key but the last one is a signal, and bells ring as bells says.
func wantRow(t *testing.T, x api.Table, room int, c row, bells string) {
	t.Helper()
	k := api.Talk{}
	for i, want := range strings.Split(c.want, "|") {
		next, typed := talk.Type(x, room, k, c.keys[i], hows[c.how[i]].edit, hows[c.how[i]].forward)
		signal := 0
		if i == len(c.keys)-1 {
			signal = c.signal
		}
		bell := bells != "" && bells[i] == '*'
		if !sameTyped(typed, api.Typed{Keys: []byte(want), Signal: signal, Bell: bell}) {
			t.Errorf("%q, %s, key %d: %s; want %q, the signal %d, bell %v", c.keys, c.how, i, briefTyped(typed), want, signal, bell)
		}
		k = next
	}
	if !sameTalk(k, c.end) {
		t.Errorf("%q, %s: %s; want %s", c.keys, c.how, brief(k), brief(c.end))
	}
	wantTwins(t, x, room, c.keys, c.how)
}

// wantTwins looks that keys come to the same, where they forward though they are not edited.
func wantTwins(t *testing.T, x api.Table, room int, keys, how string) {
	t.Helper()
	a, b := api.Talk{}, api.Talk{}
	for i := range len(keys) {
		h := hows[how[i]]
		var m, n api.Typed
		a, m = talk.Type(x, room, a, keys[i], h.edit, h.forward)
		b, n = talk.Type(x, room, b, keys[i], h.edit, h.forward || !h.edit)
		if !sameTalk(a, b) || !sameTyped(m, n) {
			t.Errorf("%q, %s: a key that forwards is not as another one where it is not edited", keys, how)
		}
	}
}

// The chapter's three examples.
func TestExamples(t *testing.T) {
	for _, c := range []row{
		{"a\x7fb\r", "eeee", "|||b\r", api.Talk{}, 0},
		{"ab", "er", "|ab", known(line("ab")), 0},
		{"a\x03", "ee", "|a\x03", api.Talk{}, api.IpF},
	} {
		wantRow(t, table.Standard(), 80, c, "")
	}
}

// P15.2: keys that are edited, and that are not, one behind the other, by the standard table.
func TestTypeByHand(t *testing.T) {
	for _, c := range []row{
		{"a", "e", "", held(line("a")), 0}, {"a", "r", "a", known(line("a")), 0}, {"abc", "eee", "||", held(line("abc")), 0}, {"abc", "rrr", "a|b|c", known(line("abc")), 0},
		{"abc", "ree", "a|b|c", known(line("abc")), 0}, {"abc", "ere", "|ab|c", known(line("abc")), 0}, {"abc", "eer", "||abc", known(line("abc")), 0}, {"\x00\xff", "er", "|\x00\xff", known(line("\x00\xff")), 0},
		// Enter
		{"\r", "e", "\r", api.Talk{}, 0}, {"\r", "r", "\r", api.Talk{}, 0}, {"a\r", "ee", "|a\r", api.Talk{}, 0}, {"a\r", "er", "|a\r", api.Talk{}, 0}, {"a\r", "re", "a|\r", api.Talk{}, 0},
		{"ab\rc\r", "reeee", "a|b|\r||c\r", api.Talk{}, 0}, {"a\r\rb", "eeee", "|a\r|\r|", held(line("b")), 0}, {"a\rb", "ree", "a|\r|", held(line("b")), 0}, {"a\rb", "eer", "|a\r|b", known(line("b")), 0},
		// erasures
		{"\x7f", "e", "", held(api.State{}), 0}, {"\x7f", "r", "\x7f", api.Talk{}, 0}, {"a\x7f", "ee", "|", held(api.State{}), 0}, {"a\x7f", "er", "|a\x7f", api.Talk{}, 0}, {"a\x7fb", "ree", "a|\x7f|", held(line("b")), 0},
		{"a\x7f\r", "eee", "||\r", api.Talk{}, 0}, {"ab cd\x17\r", "eeeeeee", "||||||ab \r", api.Talk{}, 0}, {"ab\x15\r", "eeee", "|||\r", api.Talk{}, 0}, {"abc\x02\x08\r", "eeeeee", "|||||ab\r", api.Talk{}, 0},
		{"ab cd\x01\x0e\r", "eeeeeeee", "|||||||cd\x01\r", api.Talk{}, 0}, {"abc\x02\x1d\r", "eeeeee", "|||||c\x01\r", api.Talk{}, 0}, {"abc\x02\x0b\r", "eeeeee", "|||||ab\r", api.Talk{}, 0},
		// moves
		{"ab\x02c", "eeer", "|||b\x01ac", known(stateOf("acb", 2)), 0}, {"ab\x02c\r", "eeeee", "||||b\x01ac\r", api.Talk{}, 0}, {"ab\x02", "rre", "a|b|\x02", known(stateOf("ab", 1)), 0}, {"ab\x02", "eer", "||ab\x02", known(stateOf("ab", 1)), 0},
		{"ab cd\x19x\r", "eeeeeeee", "|||||||cd\x01ab x\r", api.Talk{}, 0}, {"ab c\x01\x18x", "eeeeeer", "||||||c\x01ab x", known(stateOf("ab xc", 4)), 0}, {"ab\x01\x06c\x05d", "eeeeeer", "||||||acbd", known(line("acbd")), 0},
		// what changes nothing of the line
		{"\x12", "e", "", held(api.State{}), 0}, {"\x11a\x13\r", "eeee", "|||a\r", api.Talk{}, 0}, {"a\x12b", "rer", "a|\x12|b", known(line("ab")), 0},
		// LnextF, and what is taken as it is behind it
		{"\x16", "e", "", held(api.State{Lit: true}), 0}, {"\x16", "r", "\x16", known(api.State{Lit: true}), 0}, {"\x16\r", "ee", "|", held(line("\r")), 0}, {"\x16\r", "er", "|\x16\r", known(line("\r")), 0}, {"\x16\r\r", "eee", "||\x16\r\r", api.Talk{}, 0},
		{"\x16\x03", "ee", "|", held(line("\x03")), 0}, {"\x16\x03", "er", "|\x16\x03", known(line("\x03")), 0}, {"\x16\x03", "rr", "\x16|\x03", known(line("\x03")), 0}, {"\x16\x03", "re", "\x16|\x03", known(line("\x03")), 0},
		{"a\x16\x03", "eer", "||a\x16\x03", known(line("a\x03")), 0}, {"\x16\x03\x03", "eee", "||\x16\x03\x03", api.Talk{}, api.IpF}, {"\x16\x03\x03", "rrr", "\x16|\x03|\x03", api.Talk{}, api.IpF}, {"\x16\x16a", "eer", "||\x16\x16a", known(line("\x16a")), 0},
		// OverF and InsrtF
		{"\x10", "e", "", held(api.State{Over: true}), 0}, {"\x10\r", "ee", "|\x10\r", api.Talk{}, 0}, {"\x10\x09\r", "eee", "||\r", api.Talk{}, 0}, {"ab\x01\x10c\r", "eeeeee", "|||||b\x01c\x10\r", api.Talk{}, 0}, {"\x10a", "re", "\x10|a", known(set(line("a"), true, false)), 0}, {"\x10\x16a", "eer", "||\x10\x16a", known(set(line("a"), true, false)), 0},
	} {
		wantRow(t, table.Standard(), 80, c, "")
	}
}

// P15.2: keys that forward, by the standard table: with a state behind that is the zero one and that is not, and with an event.
func TestForwardByHand(t *testing.T) {
	for _, c := range []row{
		{"a", "f", "a", known(line("a")), 0}, {"ab", "ef", "|ab", known(line("ab")), 0}, {"ab", "ff", "a|b", known(line("ab")), 0}, {"abc", "efe", "|ab|c", known(line("abc")), 0}, {"abc", "eff", "|ab|c", known(line("abc")), 0}, {"ab", "rf", "a|b", known(line("ab")), 0}, {"abd\r", "efee", "|ab|d|\r", api.Talk{}, 0},
		{"\x7f", "f", "", held(api.State{}), 0}, {"a\x7f", "ef", "|", held(api.State{}), 0}, {"a\x7f", "rf", "a|\x7f", api.Talk{}, 0}, {"a\x15b", "eff", "||b", known(line("b")), 0}, {"\x12", "f", "", held(api.State{}), 0}, {"a\x12", "ef", "|a", known(line("a")), 0},
		{"\x16", "f", "\x16", known(api.State{Lit: true}), 0}, {"\x10", "f", "\x10", known(api.State{Over: true}), 0}, {"\x10\x09", "ef", "|", held(api.State{}), 0}, {"\x16a", "fe", "\x16|a", known(line("a")), 0},
		{"ab\x02", "eef", "||b\x01a", known(stateOf("ab", 1)), 0}, {"ab\x7f", "eef", "||a", known(line("a")), 0}, {"ab\x02c", "eeef", "|||b\x01ac", known(stateOf("acb", 2)), 0}, {"a\x16\r", "eef", "||a\x16\r", known(line("a\r")), 0},
		{"\r", "f", "\r", api.Talk{}, 0}, {"a\r", "ef", "|a\r", api.Talk{}, 0}, {"a\r", "ff", "a|\r", api.Talk{}, 0}, {"a\x14", "ef", "|a\x14", known(line("a")), api.AytF}, {"\x14", "f", "\x14", api.Talk{}, api.AytF}, {"a\x04", "ef", "|a\x04", api.Talk{}, api.EofF}, {"a\x03", "ef", "|a\x03", api.Talk{}, api.IpF},
		// The last key that is passed on is one of those that renew, and no signal, also where Lit was set, and the octet is a signal's key.
		{"a\x16\x03", "eef", "||a\x16\x03", known(line("a\x03")), 0}, {"\x16\x14", "ef", "|\x16\x14", known(line("\x14")), 0},
	} {
		wantRow(t, table.Standard(), 80, c, "")
	}
}

// P15.2: each of the nine signals, by its key: with a line and without one, with Over set, and with Lit set, where it is none.
func TestSignals(t *testing.T) {
	x := full()
	for f := 1; f <= 9; f++ {
		k := string([]byte{x[f].V})
		stays := f == api.AoF || f == api.AytF || f == api.EorF
		behind := func(s api.State) api.Talk {
			if stays {
				return known(s)
			}
			return api.Talk{}
		}
		for _, c := range []row{
			{k, "e", k, api.Talk{}, f}, {k, "f", k, api.Talk{}, f}, {k, "r", k, api.Talk{}, f},
			{"a" + k, "ee", "|a" + k, behind(line("a")), f}, {"a" + k, "er", "|a" + k, behind(line("a")), f}, {"a" + k, "rr", "a|" + k, behind(line("a")), f}, {"a" + k, "re", "a|" + k, behind(line("a")), f}, {"a" + k, "ef", "|a" + k, behind(line("a")), f},
			{"\x10" + k, "ee", "|\x10" + k, behind(api.State{Over: true}), f}, {"\x10" + k, "rr", "\x10|" + k, behind(api.State{Over: true}), f},
			{"a\x7f" + k, "eee", "||" + k, api.Talk{}, f}, {"a\x7f" + k, "eer", "||" + k, api.Talk{}, f},
			{"\x16" + k, "ee", "|", held(line(k)), 0}, {"\x16" + k, "er", "|\x16" + k, known(line(k)), 0}, {"\x16" + k, "re", "\x16|" + k, known(line(k)), 0}, {"\x16" + k, "rr", "\x16|" + k, known(line(k)), 0}, {"\x16" + k, "ef", "|\x16" + k, known(line(k)), 0},
			{"\x16" + k + k, "eee", "||\x16" + k + k, behind(line(k)), f}, {"a\x16" + k + "\x02" + k, "eeeee", "||||\x16" + k + "\x01a" + k, behind(stateOf("a"+k, 1)), f},
		} {
			wantRow(t, x, 80, c, "")
		}
		next := row{"a" + k + "b\r", "eeee", "|a" + k + "||b\r", api.Talk{}, 0}
		if stays {
			next.want = "|a" + k + "|b|\r"
		}
		wantKeys(t, x, next)
	}
}

// wantKeys looks at the keys of a row alone, not at its signals.
func wantKeys(t *testing.T, x api.Table, c row) {
	t.Helper()
	k := api.Talk{}
	var got []string
	for i := range len(c.keys) {
		next, typed := talk.Type(x, 80, k, c.keys[i], hows[c.how[i]].edit, hows[c.how[i]].forward)
		k, got = next, append(got, string(typed.Keys))
	}
	if s := strings.Join(got, "|"); s != c.want || !sameTalk(k, c.end) {
		t.Errorf("%q, %s: %q, %s; want %q, %s", c.keys, c.how, s, brief(k), c.want, brief(c.end))
	}
}

// P15.2: what is a signal's key by other tables, and what is none: 13, a key that a lower function has, one without a level.
func TestSignalsByTables(t *testing.T) {
	s := table.Standard()
	for _, c := range []struct {
		x      api.Table
		key    byte
		want   int
		signal int
	}{
		{keyed(s, api.IpF, 'q'), 'q', 1, 3}, {keyed(s, api.IpF, 'q'), 3, 0, 0}, {keyed(s, api.IpF, 13), 13, 1, 0}, {keyed(s, api.SynchF, 0), 0, 1, 1}, {keyed(s, api.SuspF, 255), 255, 1, 9},
		{keyed(s, api.BrkF, 4), 4, 1, 2}, {keyed(s, api.BrkF, 22), 22, 1, 2}, {keyed(s, api.EcF, 3), 3, 1, 3}, {keyed(s, api.SuspF, 127), 127, 1, 9}, {without(s, api.EofF), 4, 0, 0}, {api.Table{}, 3, 0, 0},
		{keyed(s, api.EcF, 'q'), 'q', 0, 0}, {keyed(s, api.EeolF, 'q'), 'q', 0, 0}, {keyed(s, api.Forw1F, 'q'), 'q', 0, 0},
		{with(s, map[int]api.Cell{api.IpF: {Level: -1, V: 'q'}}), 'q', 1, 3}, {with(s, map[int]api.Cell{api.IpF: {V: 'q'}}), 'q', 0, 0}, {with(s, map[int]api.Cell{0: {Level: 2, V: 'q'}}), 'q', 0, 0},
	} {
		for letter, how := range hows {
			_, typed := talk.Type(c.x, 80, held(line("x")), c.key, how.edit, how.forward)
			want := c.signal
			if typed.Signal != want {
				t.Errorf("%d, %c: the signal %d; want %d", c.key, letter, typed.Signal, want)
			}
		}
		_, typed := talk.Type(c.x, 80, held(line("x")), c.key, true, false)
		if want := strings.Repeat("x"+string([]byte{c.key}), c.want); string(typed.Keys) != want {
			t.Errorf("%d: %q; want %q", c.key, typed.Keys, want)
		}
	}
}

// P15.2: keys that ring a bell are passed on as others are; room 0, 1, below 0, and less than the line has.
func TestBells(t *testing.T) {
	s := table.Standard()
	for _, c := range []struct {
		room int
		row
		bells string
	}{
		{1, row{"ab", "ee", "|", held(line("a")), 0}, ".*"}, {1, row{"ab", "rr", "a|b", known(line("a")), 0}, ".*"}, {1, row{"ab", "er", "|ab", known(line("a")), 0}, ".*"}, {1, row{"ab", "re", "a|b", known(line("a")), 0}, ".*"}, {1, row{"ab", "ef", "|a", known(line("a")), 0}, ".*"},
		{1, row{"ab\r", "eee", "||a\r", api.Talk{}, 0}, ".*."}, {1, row{"a\x16\x03", "eee", "||", held(line("a")), 0}, "..*"}, {1, row{"a\x16\x03", "eer", "||a\x16\x03", known(line("a")), 0}, "..*"}, {1, row{"a\x16\x03", "eef", "||a", known(line("a")), 0}, "..*"}, {1, row{"a\x01\x10b", "eeee", "|||", held(set(line("b"), true, false)), 0}, "...."},
		{0, row{"a", "e", "", held(api.State{}), 0}, "*"}, {0, row{"a", "r", "a", api.Talk{}, 0}, "*"}, {0, row{"a", "f", "", held(api.State{}), 0}, "*"}, {0, row{"\x16a", "ee", "|", held(api.State{}), 0}, ".*"}, {0, row{"\x16a", "er", "|\x16a", api.Talk{}, 0}, ".*"}, {0, row{"\x16a", "re", "\x16|a", api.Talk{}, 0}, ".*"}, {0, row{"a\r", "ee", "|\r", api.Talk{}, 0}, "*."},
		{-1, row{"a", "e", "", held(api.State{}), 0}, "*"}, {math.MinInt, row{"a\x03", "er", "|\x03", api.Talk{}, api.IpF}, "*."}, {2, row{"abc", "eee", "||", held(line("ab")), 0}, "..*"}, {3, row{"abc", "eer", "||abc", known(line("abc")), 0}, "..."},
	} {
		wantRow(t, s, c.room, c.row, c.bells)
	}
	for _, room := range []int{math.MinInt, -1, 0, 1, 2} {
		wantTyped(t, s, room, held(stateOf("abc", 1)), 'd', hows['e'], held(stateOf("abc", 1)), api.Typed{Bell: true})
		wantTyped(t, s, room, held(stateOf("abc", 1)), 'd', hows['r'], known(stateOf("abc", 1)), api.Typed{Keys: []byte("bc\x01ad"), Bell: true})
		wantTyped(t, s, room, held(stateOf("abc", 1)), 'd', hows['f'], known(stateOf("abc", 1)), api.Typed{Keys: []byte("bc\x01a"), Bell: true})
		wantTyped(t, s, room, known(stateOf("abc", 1)), 'd', hows['e'], known(stateOf("abc", 1)), api.Typed{Keys: []byte("d"), Bell: true})
		wantTyped(t, s, room, held(line("abc")), 127, hows['r'], known(line("ab")), api.Typed{Keys: []byte("abc\x7f")})
	}
}

// P15.2: a line that has as many octets as there may be, and one fewer.
func TestLongLines(t *testing.T) {
	s := table.Standard()
	a := strings.Repeat("a", 4096)
	for _, room := range []int{4096, 4097, math.MaxInt} {
		wantTyped(t, s, room, held(line(a)), 'b', hows['e'], held(line(a)), api.Typed{Bell: true})
		wantTyped(t, s, room, held(line(a)), 'b', hows['r'], known(line(a)), api.Typed{Keys: []byte(a + "b"), Bell: true})
		wantTyped(t, s, room, held(line(a)), 'b', hows['f'], known(line(a)), api.Typed{Keys: []byte(a), Bell: true})
		wantTyped(t, s, room, known(line(a)), 'b', hows['e'], known(line(a)), api.Typed{Keys: []byte("b"), Bell: true})
		wantTyped(t, s, room, held(stateOf(a, 0)), '\r', hows['e'], api.Talk{}, api.Typed{Keys: []byte(a + "\x01\r")})
		wantTyped(t, s, room, held(line(a[1:])), 'b', hows['e'], held(line(a[1:]+"b")), api.Typed{})
		wantTyped(t, s, room, held(line(a[1:])), 'b', hows['f'], known(line(a[1:]+"b")), api.Typed{Keys: []byte(a[1:] + "b")})
		wantTyped(t, s, room, held(line(strings.Repeat("\x03", 4096))), 3, hows['e'], api.Talk{}, api.Typed{Keys: []byte(strings.Repeat("\x16\x03", 4096) + "\x03"), Signal: api.IpF})
	}
	wantPassed(t, without(s, api.McBolF), held(stateOf(a, 0)), known(stateOf(a, 0)), a+strings.Repeat("\x02", 4096))
	for i, k := range talks(longStates()...) {
		for j, key := range []byte("x\x0d\x03\x04\x0f\x7f\x15\x01\x16\x10;\xca") {
			for _, how := range hows {
				room := []int{0, 4095, 4096, math.MaxInt}[(i+j)%4]
				want, out := rule(full(), room, k, key, how)
				wantTyped(t, full(), room, k, key, how, want, out)
			}
		}
	}
}

// P15.2: from talks that are Held and that are not, of states that are the zero one and that are not, each of the 256 keys, in each way, by the rule of this test.
func TestTypeByRule(t *testing.T) {
	for i, x := range allTables() {
		for j, k := range talks(states()...) {
			for key := range 256 {
				// Of keys that are no function's some are enough.
				if key%16 != (i+j)%16 && meaning(x, byte(key)) == 0 {
					continue
				}
				room := []int{len(k.S.L.B) + 1, len(k.S.L.B), 80, 0}[(i+j+key)%4]
				for _, how := range hows {
					want, out := rule(x, room, k, byte(key), how)
					wantTyped(t, x, room, k, byte(key), how, want, out)
				}
			}
		}
	}
}

// there is another editor, to which keys are passed on, and what it has told.
type there struct {
	s  api.State
	ev []api.Event
}

func (e there) play(x api.Table, room int, keys []byte) there {
	s, l, _ := editor.Play(x, room, e.s, keys)
	return there{s, slices.Concat(e.ev, l)}
}

// of is the state that the other editor is to have.
func of(k api.Talk) api.State {
	if k.Held {
		return api.State{}
	}
	return k.S
}

// wantFollowed looks that a key, typed in a talk with which another editor is even, leaves that even with the talk behind it, with the same events, and answers that talk.
func wantFollowed(t *testing.T, x api.Table, room int, k api.Talk, key byte, how what) api.Talk {
	t.Helper()
	here := there{s: k.S}.play(x, room, []byte{key})
	next, typed := talk.Type(x, room, k, key, how.edit, how.forward)
	that := there{s: of(k)}.play(x, room, typed.Keys)
	if !sameState(next.S, here.s) || !sameState(that.s, of(next)) || !sameEvents(that.ev, here.ev) {
		t.Fatalf("%d, %+v, room %d, %s: %s; %s; the other editor has %s and %d events of %d", key, how, room, brief(k), brief(next), briefTyped(typed), brief(known(that.s)), len(that.ev), len(here.ev))
	}
	wantBySignal(t, x, room, k, key, typed, that)
	return next
}

// wantBySignal looks that a signal in place of the last key that was passed on comes to what that does, and that a signal is told where a signal came.
func wantBySignal(t *testing.T, x api.Table, room int, k api.Talk, key byte, typed api.Typed, that there) {
	t.Helper()
	if typed.Signal == 0 {
		if n := len(that.ev); n > 0 && that.ev[n-1].Kind != api.LineE {
			t.Fatalf("%d, %s: no signal is passed on, but the event %+v came", key, brief(k), that.ev[n-1])
		}
		return
	}
	last := len(typed.Keys) - 1
	if last < 0 || typed.Keys[last] != key {
		t.Fatalf("%d, %s: %s", key, brief(k), briefTyped(typed))
	}
	ahead := there{s: of(k)}.play(x, room, typed.Keys[:last])
	s, l, e := editor.Signal(ahead.s, typed.Signal)
	if e != api.OK || !sameState(s, that.s) || !sameEvents(slices.Concat(ahead.ev, l), that.ev) {
		t.Fatalf("%d, %s: by the signal %d the other editor has %s and %d events (error %d); by its key %s and %d events", key, brief(k), typed.Signal, brief(known(s)), len(l), e, brief(known(that.s)), len(that.ev))
	}
}

// wantHandedOver looks that Pass leaves the other editor even with the talk, without an event, and answers the talk behind it.
func wantHandedOver(t *testing.T, x api.Table, room int, k api.Talk) api.Talk {
	t.Helper()
	next, keys := talk.Pass(x, k)
	s, l, bells := editor.Play(x, room, of(k), keys)
	if next.Held || !sameState(next.S, k.S) || !sameState(s, k.S) || len(l) != 0 || bells != 0 {
		t.Fatalf("Pass of %s: %s; %.60q; the other editor has %s, %d events, %d bells", brief(k), brief(next), keys, brief(known(s)), len(l), bells)
	}
	return next
}

// place is a talk that maps take as a key.
type place struct {
	b               string
	at              int
	over, lit, held bool
}

func placeOf(k api.Talk) place {
	return place{string(k.S.L.B), k.S.L.At, k.S.Over, k.S.Lit, k.Held}
}

// few is a table of few functions, some of which have no key by the bits of a number.
func few(bits int) api.Table {
	x := api.Table{}
	for f, k := range map[int]byte{api.IpF: 'i', api.AytF: 'y', api.EofF: 'f', api.EcF: 'e', api.McRF: 'r', api.InsrtF: 'o'} {
		x = keyed(x, f, k)
	}
	for i, f := range []int{api.LnextF, api.OverF, api.McBolF, api.McLF, api.McWlF} {
		if bits>>i&1 == 1 {
			x = keyed(x, f, "LOBCW"[i])
		}
	}
	return x
}

// wantAllFollowed goes through all talks to which these keys lead from the zero one, typed in each way and passed on whenever, and answers how many there are.
func wantAllFollowed(t *testing.T, x api.Table, room int, keys string) int {
	t.Helper()
	been := map[place]bool{placeOf(api.Talk{}): true}
	l := []api.Talk{{}}
	for i := 0; i < len(l); i++ {
		found := []api.Talk{wantHandedOver(t, x, room, l[i])}
		for _, key := range []byte(keys) {
			for _, how := range hows {
				found = append(found, wantFollowed(t, x, room, l[i], key, how))
			}
		}
		for _, k := range found {
			if p := placeOf(k); !been[p] {
				been[p] = true
				l = append(l, k)
			}
		}
	}
	return len(l)
}

// P15.3: of each talk that there can be with few keys and little room: whatever is typed next, in whatever way, the other editor stays even. So it is of all that is typed from the zero talk on.
func TestAllThatIsReached(t *testing.T) {
	keys := "a iyfero\x0dLOBCW"
	for bits := range 32 {
		for _, room := range []int{-1, 0, 1} {
			wantAllFollowed(t, few(bits), room, keys)
		}
	}
	if n := wantAllFollowed(t, few(31), 2, "aiyfe\x0dLOC"); n < 500 {
		t.Errorf("no more than %d talks are reached", n)
	}
	wantAllFollowed(t, few(0b11011), 2, "aie\x0dLOC")
}

// walk types keys from the zero talk, and keeps all that was typed, and all that was passed on.
type walk struct {
	table         api.Table
	room          int
	k             api.Talk
	typed, passed []byte
	here, there   there
	kinds
}

// kinds counts what a walk came through.
type kinds struct {
	edited, held, forwarded, signals, bells, renewed, all int
}

func (w *walk) key(t *testing.T, key byte, how what) {
	t.Helper()
	was := w.k
	next, typed := talk.Type(w.table, w.room, was, key, how.edit, how.forward)
	_, _, bell := editor.Key(w.table, w.room, was.S, key)
	if typed.Bell != bell {
		t.Fatalf("%d, %+v, room %d, %s: bell %v", key, how, w.room, brief(was), typed.Bell)
	}
	w.typed, w.here = append(w.typed, key), w.here.play(w.table, w.room, []byte{key})
	w.follow(t, next, typed.Keys)
	w.count(was, how, typed)
}

func (w *walk) pass(t *testing.T) {
	t.Helper()
	next, keys := talk.Pass(w.table, w.k)
	w.follow(t, next, keys)
}

// follow passes keys on, and looks that the other editor is even with the talk behind that.
func (w *walk) follow(t *testing.T, next api.Talk, keys []byte) {
	t.Helper()
	w.k, w.passed, w.there = next, append(w.passed, keys...), w.there.play(w.table, w.room, keys)
	if !sameState(w.k.S, w.here.s) || !sameState(w.there.s, of(w.k)) || !sameEvents(w.there.ev, w.here.ev) {
		t.Fatalf("room %d: of %q the keys %q were passed on: %s; the other editor has %s and %d events of %d", w.room, w.typed, w.passed, brief(w.k), brief(known(w.there.s)), len(w.there.ev), len(w.here.ev))
	}
}

func (w *walk) count(was api.Talk, how what, typed api.Typed) {
	for n, is := range map[*int]bool{
		&w.edited: how.edit, &w.held: w.k.Held, &w.forwarded: how.edit && was.Held && !w.k.Held && typed.Signal == 0 && len(typed.Keys) > 0,
		&w.signals: typed.Signal != 0, &w.bells: typed.Bell, &w.renewed: was.Held && !isZero(was.S) && !w.k.Held, &w.all: true,
	} {
		if is {
			*n++
		}
	}
}

// wantWhole looks at all that was typed and passed on once more, each in one go.
func (w *walk) wantWhole(t *testing.T) {
	t.Helper()
	typed, passed := there{}.play(w.table, w.room, w.typed), there{}.play(w.table, w.room, w.passed)
	if !sameState(typed.s, w.k.S) || !sameState(passed.s, of(w.k)) || !sameEvents(typed.ev, passed.ev) {
		t.Fatalf("room %d: of %q, typed in one go, %q, passed on in one go, does not come to the same", w.room, w.typed, w.passed)
	}
}

// keyBy is a key of some kind for a table: most are typed, some do something, few end the line.
func keyBy(x api.Table, pick func(below int) int) byte {
	switch c := pick(40); {
	case c < 18:
		return "abc \t;:"[pick(7)]
	case c < 29:
		return x[10+pick(21)].V
	case c < 32:
		return x[api.LnextF].V
	case c < 36:
		return byte(pick(256))
	case c < 38:
		return 13
	}
	return x[1+pick(9)].V
}

// P15.3: long rows of keys, from the zero talk, edited here or not, changed in the middle of a line, whatever forwards, and whenever it is passed on, by whatever table, with whatever room.
func TestFollowsWhatIsTyped(t *testing.T) {
	var n kinds
	for i, x := range allTables() {
		for j, room := range rooms {
			for seed := range 4 {
				pick := picks(i*1000 + j*10 + seed)
				w := walk{table: x, room: room}
				edit := seed%2 == 0
				for range 150 {
					if pick(8) == 0 {
						edit = !edit
					}
					if pick(30) == 0 {
						w.pass(t)
					}
					w.key(t, keyBy(x, pick), what{edit, pick(12) == 0})
				}
				w.wantWhole(t)
				if x == table.Standard() {
					n = sum(n, w.kinds)
				}
			}
		}
	}
	// All kinds are come through: else what is looked at here would say little.
	if min(n.edited, n.all-n.edited, n.held, n.forwarded, n.signals, n.bells, n.renewed) < n.all/100 {
		t.Errorf("few are of some kind: %+v", n)
	}
}

func sum(a, b kinds) kinds {
	return kinds{a.edited + b.edited, a.held + b.held, a.forwarded + b.forwarded, a.signals + b.signals, a.bells + b.bells, a.renewed + b.renewed, a.all + b.all}
}

// P15.3: each key of rows as above, by itself: what it passes on keeps the other editor even, and a signal comes to the same as its key.
func TestFollowsEachKey(t *testing.T) {
	for i, x := range allTables() {
		for j, room := range rooms {
			pick := picks(i*100 + j)
			k := api.Talk{}
			for range 200 {
				wantHandedOver(t, x, room, k)
				key := keyBy(x, pick)
				for _, how := range hows {
					wantFollowed(t, x, room, k, key, how)
				}
				k = wantFollowed(t, x, room, k, key, what{pick(4) > 0, pick(6) == 0})
			}
		}
	}
}

// P15.3: rows written out by hand, with all ways in which two keys behind one another can be typed, and with room just enough.
func TestFollowsByHand(t *testing.T) {
	for _, keys := range []string{"ab\x02c\r", "a\x16\x03\x03b", "\x10a\x01b\r", "a\x14\x16\x14\r", "a\x04\x04b\r", "ab\x15c\x0fd", "a\x16\r\x7f\r", ";a:\xcab", "a b\x19c\x03"} {
		for ways := range 1 << (2 * len(keys)) {
			w := walk{table: full(), room: 2 + ways%3}
			for i := range len(keys) {
				bits := ways >> (2 * i)
				w.key(t, keys[i], what{bits&1 == 1, bits&2 == 2})
			}
			w.wantWhole(t)
		}
	}
}

// P15.3: a line that grows to as many octets as there may be, is not edited any more, or forwards, and is ended.
func TestFollowsLongLines(t *testing.T) {
	keys := slices.Concat(chance(4, 4090, "ab ;"), []byte("\x16\x03\x02cdefghij\x01\x10k"))
	for _, how := range []string{"eer", "eef", "ere", "ree", "eee", "efr"} {
		w := walk{table: full(), room: 4096}
		for i, key := range keys {
			// The middle one of the three ways is of one key alone, far within the line.
			h := hows[how[min(i/3000, 1)+min(i/3001, 1)]]
			next, out := talk.Type(w.table, w.room, w.k, key, h.edit, h.forward)
			w.k, w.typed, w.passed = next, append(w.typed, key), append(w.passed, out.Keys...)
		}
		w.wantWhole(t)
		if n := len(w.k.S.L.B); n != 4096 {
			t.Errorf("%s: the line has %d octets", how, n)
		}
		for _, end := range []byte("\r\x03\x04\x14") {
			for _, h := range hows {
				wantFollowed(t, w.table, w.room, w.k, end, h)
				wantHandedOver(t, w.table, w.room, w.k)
			}
		}
	}
}

// P15.3: talks, keys and what was typed stay as they were behind each later call.
func TestWhatWasAnsweredStays(t *testing.T) {
	for seed := range 8 {
		pick := picks(seed)
		var had, was []api.Talk
		var keys [][]byte
		var stay []string
		k := api.Talk{}
		for range 400 {
			next, typed := talk.Type(full(), 12, k, keyBy(full(), pick), pick(4) > 0, pick(9) == 0)
			if pick(9) == 0 {
				var more []byte
				next, more = talk.Pass(full(), next)
				keys, stay = append(keys, more), append(stay, string(more))
			}
			had, was = append(had, k), append(was, spared(k))
			keys, stay = append(keys, typed.Keys), append(stay, string(typed.Keys))
			k = next
		}
		if !slices.EqualFunc(had, was, sameTalk) || !slices.EqualFunc(keys, stay, func(b []byte, s string) bool { return string(b) == s }) {
			t.Errorf("seed %d: talks or keys changed behind later calls", seed)
		}
		wantApart(t, keys...)
	}
}
