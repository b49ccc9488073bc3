package editor_test

import (
	"bytes"
	"fmt"
	"math"
	"slices"
	"strings"
	"testing"

	"linnet/api"
	"linnet/editor"
	"linnet/table"
)

const blanks = " \t"

// words is a line of words and blanks, at whose places the standard table's keys do what is written out by hand below.
const words = "ab  cd\tef "

var both = []bool{false, true}

// wide are numbers that are far from all that may be, those among them that would be near if they were cut to fewer bits.
var wide = []int{
	-2, -3, -9, -10, -30, -31, -255, -256, -256 + 3, -4095, -4096, -65536, -65536 + 3,
	32, 64, 127, 128, 255, 256, 257, 259, 4097, 4098, 8192, 65535, 65536, 65537, 65536 + 3,
	1<<31 - 1, 1 << 31, 1<<31 + 1, 1<<31 + 3, -1 << 31, -1<<31 + 1, -1<<31 + 3,
	1 << 32, 1<<32 + 1, 1<<32 + 3, 1<<32 + 9, -1 << 32, -1<<32 + 1, -1<<32 + 3,
	math.MaxInt, math.MaxInt - 1, math.MinInt, math.MinInt + 1, math.MinInt + 3,
}

// signals are all of them, by name and by what the chapter says of each.
var signals = []struct {
	f    int
	stay bool
}{
	{api.SynchF, false}, {api.BrkF, false}, {api.IpF, false}, {api.AoF, true}, {api.AytF, true},
	{api.EorF, true}, {api.AbortF, false}, {api.EofF, false}, {api.SuspF, false},
}

func stateOf(s string, at int) api.State {
	return api.State{L: api.Line{B: []byte(s), At: at}}
}

func set(s api.State, over, lit bool) api.State {
	s.Over, s.Lit = over, lit
	return s
}

func lineE(s string) api.Event { return api.Event{Kind: api.LineE, B: []byte(s)} }
func partE(s string) api.Event { return api.Event{Kind: api.PartE, B: []byte(s)} }
func signalE(f int) api.Event  { return api.Event{Kind: api.SignalE, F: f} }

// picks are numbers that look like chance, and are the same each time.
func picks(seed int) func(below int) int {
	x := uint32(seed)*2654435761 + 12345
	return func(below int) int {
		x = x*1664525 + 1013904223
		return int(x>>8) % below
	}
}

func chance(seed, n int, some string) []byte {
	pick := picks(seed)
	b := make([]byte, n)
	for i := range b {
		b[i] = some[pick(len(some))]
	}
	return b
}

// anyKeys are keys of all kinds: many that are typed, many that mean something by the standard table.
func anyKeys(seed, n int) []byte {
	return chance(seed, n, "abcdefgh \txyz;:,. \t\x00\x7f\xff\x01\x02\x02\x02\x03\x04\x05\x06\x08\x09\x0b\x0d\x0d\x0e\x0f\x10\x11\x12\x13\x14\x15\x16\x16\x17\x18\x19\x19\x1a\x1c\x1d")
}

// with is a table with other cells, whether it may be or not.
func with(t api.Table, cells map[int]api.Cell) api.Table {
	for f, c := range cells {
		t[f] = c
	}
	return t
}

// full is the standard table with a key for each function that has none there.
func full() api.Table {
	return with(table.Standard(), map[int]api.Cell{
		api.SynchF: {Level: api.CantChange, V: 200}, api.BrkF: {Level: api.Value, V: 201}, api.EorF: {Level: api.CantChange, V: 202},
		api.Forw1F: {Level: api.Value, V: ';'}, api.Forw2F: {Level: api.CantChange, V: ':'},
	})
}

// tables are some that may be: other keys for what there is, one key for two functions, no key at all.
func tables() []api.Table {
	s := table.Standard()
	l := []api.Table{
		{}, s, full(),
		with(s, map[int]api.Cell{api.EcF: {Level: api.Value, V: 'a'}, api.IpF: {}, api.LnextF: {Level: api.CantChange, V: 'b'}}),
		with(s, map[int]api.Cell{api.ElF: {Level: api.Value, V: 127}, api.Forw1F: {Level: api.Value, V: 3}, api.OverF: {Level: api.Value, V: 9}}),
		with(s, map[int]api.Cell{api.IpF: {Level: api.Value, V: 13}, api.LnextF: {}, api.EofF: {}, api.EcF: {}}),
	}
	for seed := range 6 {
		t := api.Table{}
		pick := picks(seed)
		for f := 1; f <= 30; f++ {
			if level := pick(3); level > 0 {
				t[f] = api.Cell{Level: level, V: byte(pick([]int{256, 40, 130}[seed%3]))}
			}
		}
		l = append(l, t)
	}
	return l
}

// oddTables may not be: a level that there is not, a key without a level, something in cell 0.
func oddTables() []api.Table {
	s := table.Standard()
	return []api.Table{
		with(s, map[int]api.Cell{api.EcF: {Level: 3, V: 'a'}, api.IpF: {Level: -1, V: 'b'}}),
		with(s, map[int]api.Cell{api.EcF: {V: 127}, api.ElF: {V: 'a'}}),
		with(s, map[int]api.Cell{0: {Level: 2, V: 'a'}, api.ElF: {Level: math.MaxInt, V: 'c'}}),
		with(api.Table{}, map[int]api.Cell{0: {Level: 2, V: 3}, api.LnextF: {Level: math.MinInt, V: 'b'}, api.EofF: {Level: 1 << 32, V: 'a'}}),
	}
}

// states are some that may be, with Over and Lit set and not.
func states() []api.State {
	var l []api.State
	for _, over := range both {
		for _, lit := range both {
			for _, s := range []string{"", "a", " ", words, "\x03\x0d\x16\xff"} {
				for at := range len(s) + 1 {
					l = append(l, set(stateOf(s, at), over, lit))
				}
			}
		}
	}
	return l
}

// longStates have as many octets as there may be, or nearly.
func longStates() []api.State {
	var l []api.State
	for _, n := range []int{4095, 4096} {
		for _, at := range []int{0, 1, n - 1, n} {
			for _, over := range both {
				for _, lit := range both {
					l = append(l, set(api.State{L: api.Line{B: chance(n, n, "abc \t"), At: at}}, over, lit))
				}
			}
		}
	}
	return l
}

// oddStates may not be: by At, by how many octets there are.
func oddStates() []api.State {
	var l []api.State
	for _, over := range both {
		for _, lit := range both {
			for _, n := range []int{0, 1, 5, 4096} {
				for _, at := range append([]int{-1, n + 1}, wide...) {
					if at < 0 || at > n {
						l = append(l, set(api.State{L: api.Line{B: chance(n, n, "abc \t"), At: at}}, over, lit))
					}
				}
			}
			for _, n := range []int{4097, 8192, 65536} {
				for _, at := range []int{math.MinInt, -1, 0, 1, 4096, n, n + 1, math.MaxInt} {
					l = append(l, set(api.State{L: api.Line{B: chance(n, n, "abc \t"), At: at}}, over, lit))
				}
			}
		}
	}
	return l
}

// model is an editor by a rule of its own: what is ahead of At, and what is from there on, are texts, which nothing changes.
type model struct {
	ahead, behind string
	over, lit     bool
	events        []api.Event
	bells         int
}

func modelOf(s api.State) model {
	return model{ahead: string(s.L.B[:s.L.At]), behind: string(s.L.B[s.L.At:]), over: s.Over, lit: s.Lit}
}

func (m model) state() api.State {
	return set(stateOf(m.ahead+m.behind, len(m.ahead)), m.over, m.lit)
}

// meaning goes from the highest function down: the last one that is found is the lowest.
func meaning(t api.Table, k byte) int {
	f := 0
	for g := 30; g >= 1; g-- {
		if t[g].Level != 0 && t[g].V == k {
			f = g
		}
	}
	if k == 13 {
		f = 31
	}
	return f
}

func (m model) play(t api.Table, room int, keys []byte) model {
	for _, k := range keys {
		m = m.key(t, room, k)
	}
	return m
}

func (m model) key(t api.Table, room int, k byte) model {
	if m.lit {
		m.lit = false
		return m.typed(room, k)
	}
	switch f := meaning(t, k); f {
	case 0, 17, 18:
		return m.typed(room, k)
	case 1, 2, 3, 4, 5, 6, 7, 8, 9:
		return m.signal(f)
	case 14:
		m.lit = true
	case 25, 26:
		m.over = f == 26
	case 31:
		return m.ended(lineE(m.ahead + m.behind))
	default:
		m.ahead, m.behind = m.done(f)
	}
	return m
}

func (m model) typed(room int, k byte) model {
	n := len(m.ahead) + len(m.behind)
	switch {
	case m.over && m.behind != "":
		m.behind = m.behind[1:]
	case n >= room || n >= 4096:
		m.bells++
		return m
	}
	m.ahead += string([]byte{k})
	return m
}

func (m model) signal(f int) model {
	switch {
	case f >= 4 && f <= 6:
		m.events = append(slices.Clip(m.events), signalE(f))
		m.lit = false
		return m
	case f == 8 && m.ahead+m.behind != "":
		return m.ended(partE(m.ahead + m.behind))
	}
	return m.ended(signalE(f))
}

func (m model) ended(e api.Event) model {
	return model{events: append(slices.Clip(m.events), e), bells: m.bells}
}

// done is what stands ahead and behind where a function of the line's was done; of another one as it was.
func (m model) done(f int) (string, string) {
	a, b := m.ahead, m.behind
	back := strings.LastIndexAny(strings.TrimRight(a, blanks), blanks) + 1
	on := len(b)
	if i := strings.IndexAny(b, blanks); i >= 0 {
		on = len(b) - len(strings.TrimLeft(b[i:], blanks))
	}
	left, right := max(0, len(a)-1), min(1, len(b))
	switch f {
	case 10:
		return a[:left], b
	case 11:
		return "", ""
	case 12:
		return a[:back], b
	case 19:
		return a[:left], a[left:] + b
	case 20:
		return a + b[:right], b[right:]
	case 21:
		return a[:back], a[back:] + b
	case 22:
		return a + b[:on], b[on:]
	case 23:
		return "", a + b
	case 24:
		return a + b, ""
	case 27:
		return a, b[right:]
	case 28:
		return a, b[on:]
	case 29:
		return "", b
	case 30:
		return a, ""
	}
	return a, b
}

// brief is as much of a state as a message needs.
func brief(s api.State) string {
	return fmt.Sprintf("%.40q (%d), At %d, Over %v, Lit %v", s.L.B, len(s.L.B), s.L.At, s.Over, s.Lit)
}

// briefEvents is the same of events.
func briefEvents(l []api.Event) string {
	var b strings.Builder
	fmt.Fprintf(&b, "%d events", len(l))
	for _, e := range l[:min(len(l), 5)] {
		fmt.Fprintf(&b, ", %d %d %.40q (%d)", e.Kind, e.F, e.B, len(e.B))
	}
	return b.String()
}

func sameState(a, b api.State) bool {
	return bytes.Equal(a.L.B, b.L.B) && a.L.At == b.L.At && a.Over == b.Over && a.Lit == b.Lit
}

func sameEvents(a, b []api.Event) bool {
	return slices.EqualFunc(a, b, func(x, y api.Event) bool {
		return x.Kind == y.Kind && x.F == y.F && bytes.Equal(x.B, y.B)
	})
}

// spared is b with memory of its own, and with more behind it that is not its.
func spared(b []byte) []byte {
	return append(append(make([]byte, 0, len(b)+2), b...), 201, 202)[:len(b)]
}

func sparedState(s api.State) api.State {
	s.L.B = spared(s.L.B)
	return s
}

// wantAsItWas looks that what spared made of b is as it was.
func wantAsItWas(t *testing.T, in, b []byte) {
	t.Helper()
	if !bytes.Equal(in, b) || !bytes.Equal(in[:len(b)+2][len(b):], []byte{201, 202}) {
		t.Fatalf("%.40q was changed to %.40q", b, in[:len(b)+2])
	}
}

func copied(l []api.Event) []api.Event {
	c := slices.Clone(l)
	for i := range c {
		c[i].B = bytes.Clone(c[i].B)
	}
	return c
}

// rows are all octets of a state and of events, each row by itself.
func rows(s api.State, l []api.Event) [][]byte {
	r := [][]byte{s.L.B}
	for _, e := range l {
		r = append(r, e.B)
	}
	return r
}

// wantApart looks that of these rows none has memory that another one has, each up to what is behind it.
func wantApart(t *testing.T, r ...[]byte) {
	t.Helper()
	for i, a := range r {
		for _, b := range r[i+1:] {
			if a, b = a[:cap(a)], b[:cap(b)]; len(a) == 0 || len(b) == 0 {
				continue
			}
			was := bytes.Clone(b)
			for j := range a {
				a[j]++
			}
			if !bytes.Equal(b, was) {
				t.Fatalf("octets that come to %.40q are had by two", a)
			}
			for j := range a {
				a[j]--
			}
		}
	}
}

// wantPlayed looks what keys come to, by Play, and, if it is one, by Key, and that nothing is changed or shared.
func wantPlayed(t *testing.T, x api.Table, room int, s api.State, keys []byte, want model) {
	t.Helper()
	in, inKeys := sparedState(s), spared(keys)
	got, events, bells := editor.Play(x, room, in, inKeys)
	if !sameState(got, want.state()) || !sameEvents(events, want.events) || bells != want.bells {
		t.Fatalf("Play of %.40q, room %d, %s: %s, %s, %d; want %s, %s, %d", keys, room, brief(s), brief(got), briefEvents(events), bells, brief(want.state()), briefEvents(want.events), want.bells)
	}
	wantAsItWas(t, in.L.B, s.L.B)
	wantAsItWas(t, inKeys, keys)
	wantApart(t, append(rows(got, events), in.L.B, inKeys)...)
	if len(keys) == 1 {
		wantKey(t, x, room, s, keys[0], want)
	}
}

func wantKey(t *testing.T, x api.Table, room int, s api.State, k byte, want model) {
	t.Helper()
	in := sparedState(s)
	got, events, bell := editor.Key(x, room, in, k)
	if !sameState(got, want.state()) || !sameEvents(events, want.events) || bell != (want.bells == 1) {
		t.Fatalf("Key of %d, room %d, %s: %s, %s, %v; want %s, %s, %d", k, room, brief(s), brief(got), briefEvents(events), bell, brief(want.state()), briefEvents(want.events), want.bells)
	}
	if len(events) > 1 {
		t.Fatalf("Key of %d has %d events", k, len(events))
	}
	wantAsItWas(t, in.L.B, s.L.B)
	wantApart(t, append(rows(got, events), in.L.B)...)
}

// wantSignal looks what a signal does.
func wantSignal(t *testing.T, s api.State, f int, want api.State, told []api.Event, no api.Errno) {
	t.Helper()
	in := sparedState(s)
	got, events, e := editor.Signal(in, f)
	if !sameState(got, want) || !sameEvents(events, told) || e != no {
		t.Fatalf("Signal of %d, %s: %s, %s, %d; want %s, %s, %d", f, brief(s), brief(got), briefEvents(events), e, brief(want), briefEvents(told), no)
	}
	wantAsItWas(t, in.L.B, s.L.B)
	wantApart(t, append(rows(got, events), in.L.B)...)
}

// came is what came of keys: what was, but with these events.
func came(s api.State, events ...api.Event) model {
	m := modelOf(s)
	m.events = events
	return m
}

// rang is s behind a bell.
func rang(s api.State) model {
	m := modelOf(s)
	m.bells = 1
	return m
}

// The numbers that the chapter writes out.
func TestNumbers(t *testing.T) {
	if got := []int{api.LineE, api.PartE, api.SignalE}; !slices.Equal(got, []int{1, 2, 3}) {
		t.Errorf("events: %v", got)
	}
	for i, c := range signals {
		if c.f != i+1 {
			t.Errorf("the signal %d is %d", i+1, c.f)
		}
	}
	if api.EnterF != 31 || api.LnextF != 14 || api.InsrtF != 25 || api.OverF != 26 || api.MaxLine != 4096 {
		t.Errorf("functions: %d, %d, %d, %d; lines: %d", api.EnterF, api.LnextF, api.InsrtF, api.OverF, api.MaxLine)
	}
}

// The chapter's three examples.
func TestExamples(t *testing.T) {
	s := table.Standard()
	wantPlayed(t, s, 80, api.State{}, []byte{'a', 'b', 127, 13}, came(api.State{}, lineE("a")))
	wantPlayed(t, s, 80, api.State{}, []byte{22, 3, 3}, came(api.State{}, signalE(api.IpF)))
	wantPlayed(t, s, 80, api.State{}, []byte{22, 3}, came(stateOf("\x03", 1)))
	wantPlayed(t, s, 1, api.State{}, []byte("ab"), rang(stateOf("a", 1)))
}

// P13.1: a state may be just if its line may be.
func TestCheck(t *testing.T) {
	for _, s := range slices.Concat(states(), longStates()) {
		if e := editor.Check(s); e != api.OK {
			t.Errorf("Check of %s: %d", brief(s), e)
		}
	}
	for _, s := range oddStates() {
		if e := editor.Check(s); e != api.ErrArg {
			t.Errorf("Check of %s: %d", brief(s), e)
		}
	}
}

func wantSame(t *testing.T, a, b api.State, want bool) {
	t.Helper()
	if editor.Same(a, b) != want || editor.Same(b, a) != want {
		t.Fatalf("Same of %s and %s: %v", brief(a), brief(b), !want)
	}
}

// P13.1: states that differ in one part alone are not the same, whether they may be or not.
func TestSame(t *testing.T) {
	for _, s := range slices.Concat(states(), longStates(), oddStates()) {
		wantSame(t, s, sparedState(s), true)
		wantSame(t, s, set(s, !s.Over, s.Lit), false)
		wantSame(t, s, set(s, s.Over, !s.Lit), false)
		wantSame(t, s, set(s, !s.Over, !s.Lit), false)
		for _, n := range []int{-1, 1, 1 << 32, math.MinInt} {
			other := s
			other.L.At += n
			wantSame(t, s, other, false)
		}
		longer := sparedState(s)
		longer.L.B = append(longer.L.B, 0)
		wantSame(t, s, longer, false)
		for _, place := range []int{0, len(s.L.B) / 2, len(s.L.B) - 1} {
			if len(s.L.B) == 0 {
				continue
			}
			other := sparedState(s)
			other.L.B[place] ^= 128
			wantSame(t, s, other, false)
		}
	}
	wantSame(t, set(stateOf("a", 1), true, false), set(stateOf("a", 1), false, true), false)
	for _, lit := range both {
		wantSame(t, api.State{Lit: lit}, api.State{L: api.Line{B: []byte{}}, Lit: lit}, true)
	}
}

func wantAlike(t *testing.T, a, b []api.Event, want bool) {
	t.Helper()
	if editor.Alike(a, b) != want || editor.Alike(b, a) != want {
		t.Fatalf("Alike of %s and %s: %v", briefEvents(a), briefEvents(b), !want)
	}
}

// P13.1: events that differ in one part alone, in their order, or in how many there are, are not alike.
func TestAlike(t *testing.T) {
	all := []api.Event{lineE("ab"), signalE(api.IpF), partE("ab"), lineE(""), signalE(api.EofF), {}, {Kind: -1, F: math.MinInt, B: []byte{0}}}
	for i, e := range all {
		for n := range len(all) {
			wantAlike(t, all, all[:n], false)
			wantAlike(t, all[n:n+1], all[i:i+1], n == i)
		}
		var others []api.Event
		for _, n := range []int{-1, 1, 1 << 32} {
			others = append(others, api.Event{Kind: e.Kind + n, F: e.F, B: e.B}, api.Event{Kind: e.Kind, F: e.F + n, B: e.B})
		}
		others = append(others, api.Event{Kind: e.Kind, F: e.F, B: append(bytes.Clone(e.B), 0)})
		for place := range e.B {
			b := bytes.Clone(e.B)
			b[place] ^= 128
			others = append(others, api.Event{Kind: e.Kind, F: e.F, B: b}, api.Event{Kind: e.Kind, F: e.F, B: b[:place]})
		}
		for _, other := range others {
			changed := copied(all)
			changed[i] = other
			wantAlike(t, all, changed, false)
		}
	}
	wantAlike(t, all, copied(all), true)
	turned := copied(all)
	slices.Reverse(turned)
	wantAlike(t, all, turned, false)
	wantAlike(t, []api.Event{lineE("a"), lineE("b")}, []api.Event{lineE("b"), lineE("a")}, false)
	wantAlike(t, []api.Event{lineE("a"), lineE("b")}, []api.Event{lineE("ab"), lineE("")}, false)
	wantAlike(t, []api.Event{{Kind: 1}, {Kind: 1}}, []api.Event{{Kind: 1}}, false)
	wantAlike(t, nil, []api.Event{{}}, false)
	wantAlike(t, nil, []api.Event{}, true)
	wantAlike(t, nil, nil, true)
	wantAlike(t, []api.Event{{Kind: 1}, {Kind: 3, F: 3}}, []api.Event{{Kind: 1, B: []byte{}}, {Kind: 3, F: 3, B: []byte{}}}, true)
}

// P13.2: each key of the standard table, written out by hand, from a line with At at its beginning, within it, and at its end.
func TestStandardKeysByHand(t *testing.T) {
	ended := func(e api.Event) [3]model {
		m := came(api.State{}, e)
		return [3]model{m, m, m}
	}
	stayed := func(over, lit bool, e ...api.Event) [3]model {
		return [3]model{came(set(stateOf(words, 0), over, lit), e...), came(set(stateOf(words, 5), over, lit), e...), came(set(stateOf(words, 10), over, lit), e...)}
	}
	lines := func(a string, i int, b string, j int, c string, k int) [3]model {
		return [3]model{came(stateOf(a, i)), came(stateOf(b, j)), came(stateOf(c, k))}
	}
	wants := map[byte][3]model{
		1:   lines(words, 0, words, 0, words, 0),
		2:   lines(words, 0, words, 4, words, 9),
		3:   ended(signalE(api.IpF)),
		4:   ended(partE(words)),
		5:   lines(words, 10, words, 10, words, 10),
		6:   lines(words, 1, words, 6, words, 10),
		8:   lines("b  cd\tef ", 0, "ab  c\tef ", 5, words, 10),
		9:   stayed(false, false),
		11:  lines("", 0, "ab  c", 5, words, 10),
		13:  ended(lineE(words)),
		14:  lines("cd\tef ", 0, "ab  cef ", 5, words, 10),
		15:  stayed(false, false, signalE(api.AoF)),
		16:  stayed(true, false),
		17:  stayed(false, false),
		18:  stayed(false, false),
		19:  stayed(false, false),
		20:  stayed(false, false, signalE(api.AytF)),
		21:  lines("", 0, "", 0, "", 0),
		22:  stayed(false, true),
		23:  lines(words, 0, "ab  d\tef ", 4, "ab  cd\t", 7),
		24:  lines(words, 4, words, 7, words, 10),
		25:  lines(words, 0, words, 4, words, 7),
		26:  ended(signalE(api.SuspF)),
		28:  ended(signalE(api.AbortF)),
		29:  lines(words, 0, "d\tef ", 0, "", 0),
		127: lines(words, 0, "ab  d\tef ", 4, "ab  cd\tef", 9),
	}
	for n := range 256 {
		k := byte(n)
		want, meant := wants[k]
		if !meant {
			x := string([]byte{k})
			want = lines(x+words, 1, "ab  c"+x+"d\tef ", 6, words+x, 11)
		}
		for i, at := range []int{0, 5, 10} {
			wantPlayed(t, table.Standard(), 80, stateOf(words, at), []byte{k}, want[i])
		}
	}
}

// P13.2: each of the 256 keys, in many states, by many tables, with rooms below, at and above how many octets there are.
func TestKeysByRule(t *testing.T) {
	for _, x := range slices.Concat(tables(), oddTables()) {
		for _, s := range states() {
			n := len(s.L.B)
			for k := range 256 {
				room := []int{n + 1, n, 80}[k%3]
				wantKey(t, x, room, s, byte(k), modelOf(s).key(x, room, byte(k)))
			}
		}
	}
	for _, s := range longStates() {
		for k := range 256 {
			wantKey(t, full(), 4096, s, byte(k), modelOf(s).key(full(), 4096, byte(k)))
		}
	}
}

// P13.2: many keys, one by one, from many states, by many tables.
func TestPlayByRule(t *testing.T) {
	for i, x := range slices.Concat(tables(), oddTables()) {
		for j, s := range slices.Concat(states(), longStates()) {
			for k, room := range []int{0, 1, 3, 11, 80, 4096} {
				keys := anyKeys(i*1000+j*10+k, 60)
				wantPlayed(t, x, room, s, keys, modelOf(s).play(x, room, keys))
			}
		}
	}
	keys := anyKeys(5, 30000)
	wantPlayed(t, full(), 30, api.State{}, keys, model{}.play(full(), 30, keys))
}

// P13.2: no keys at all.
func TestNoKeys(t *testing.T) {
	for _, s := range slices.Concat(states(), longStates()) {
		wantPlayed(t, full(), 80, s, nil, modelOf(s))
		wantPlayed(t, full(), 80, s, []byte{}, modelOf(s))
	}
}

// P13.2: keys that mean nothing, and those of Forw1F and Forw2F, are typed.
func TestTyped(t *testing.T) {
	x := full()
	for _, k := range []byte{0, 7, 10, 12, 27, 30, 31, ' ', 'a', ';', ':', 126, 128, 199, 203, 254, 255} {
		c := string([]byte{k})
		wantPlayed(t, x, 9, api.State{}, []byte{k}, came(stateOf(c, 1)))
		wantPlayed(t, x, 9, stateOf("ab", 1), []byte{k}, came(stateOf("a"+c+"b", 2)))
		wantPlayed(t, x, 9, set(stateOf("ab", 1), true, false), []byte{k}, came(set(stateOf("a"+c, 2), true, false)))
		wantPlayed(t, x, 2, stateOf("ab", 1), []byte{k}, rang(stateOf("ab", 1)))
		wantPlayed(t, api.Table{}, 9, stateOf("ab", 0), []byte{k}, came(stateOf(c+"ab", 1)))
	}
	wantPlayed(t, x, 9, api.State{}, []byte("a;b:c\r"), came(api.State{}, lineE("a;b:c")))
}

// P13.2: Enter tells the line, where there is one and where there is none, and all else is forgotten.
func TestEnter(t *testing.T) {
	for _, x := range slices.Concat(tables(), oddTables()) {
		for _, over := range both {
			for at := range len(words) + 1 {
				wantPlayed(t, x, 0, set(stateOf(words, at), over, false), []byte{13}, came(api.State{}, lineE(words)))
			}
			wantPlayed(t, x, 0, set(api.State{}, over, false), []byte{13}, came(api.State{}, lineE("")))
			wantPlayed(t, x, 9, set(stateOf("a", 1), over, false), []byte{13, 13, 13}, came(api.State{}, lineE("a"), lineE(""), lineE("")))
		}
	}
	for _, n := range []int{1, 4095, 4096} {
		b := chance(n, n, "abc \t")
		wantPlayed(t, full(), 1, api.State{L: api.Line{B: b, At: n / 2}}, []byte{13}, came(api.State{}, api.Event{Kind: api.LineE, B: b}))
	}
}

// P13.2: each signal, by Signal, and by its key where Lit is not set, from states with a line and without one.
func TestSignals(t *testing.T) {
	x := full()
	for _, c := range signals {
		for _, s := range slices.Concat(states(), longStates()) {
			want, told := api.State{}, signalE(c.f)
			if c.stay {
				want = set(s, s.Over, false)
			}
			if c.f == api.EofF && len(s.L.B) > 0 {
				told = api.Event{Kind: api.PartE, B: s.L.B}
			}
			wantSignal(t, s, c.f, want, []api.Event{told}, api.OK)
			k := x[c.f].V
			if !s.Lit {
				wantPlayed(t, x, 0, s, []byte{k}, came(want, told))
				continue
			}
			wantPlayed(t, x, 4096, s, []byte{k}, modelOf(set(s, s.Over, false)).typed(4096, k))
		}
	}
}

// P13.2: of numbers that are no signal.
func TestNoSignals(t *testing.T) {
	numbers := slices.Concat(wide, []int{0, 10, 30, 31, -1, -9})
	for f := 10; f <= 300; f++ {
		numbers = append(numbers, f, -f)
	}
	for _, f := range numbers {
		for _, s := range []api.State{{}, {Lit: true}, {Over: true, Lit: true}, stateOf(words, 5), set(stateOf("a", 0), true, true)} {
			wantSignal(t, s, f, s, nil, api.ErrArg)
		}
	}
}

// P13.2: LnextF: the next key is typed, whatever it means, and the one behind that is not.
func TestLnext(t *testing.T) {
	for _, x := range []api.Table{table.Standard(), full()} {
		for n := range 256 {
			k := byte(n)
			c := string([]byte{k})
			wantPlayed(t, x, 9, api.State{}, []byte{22, k}, came(stateOf(c, 1)))
			wantPlayed(t, x, 9, stateOf("ab", 1), []byte{22, k, 'x'}, came(stateOf("a"+c+"xb", 3)))
			wantPlayed(t, x, 9, set(stateOf("ab", 0), true, false), []byte{22, k}, came(set(stateOf(c+"b", 1), true, false)))
			wantPlayed(t, x, 9, api.State{}, []byte{22, k, 13}, came(api.State{}, lineE(c)))
			wantPlayed(t, x, 2, stateOf("ab", 1), []byte{22, k}, rang(stateOf("ab", 1)))
			wantPlayed(t, x, 2, set(stateOf("ab", 2), true, true), []byte{k}, rang(set(stateOf("ab", 2), true, false)))
		}
	}
	s := table.Standard()
	wantPlayed(t, s, 9, api.State{}, []byte{22}, came(api.State{Lit: true}))
	wantPlayed(t, s, 9, api.State{}, []byte{22, 22, 22}, came(set(stateOf("\x16", 1), false, true)))
	wantPlayed(t, s, 1, stateOf("a", 1), []byte{22, 3, 3}, model{events: []api.Event{signalE(api.IpF)}, bells: 1})
	wantPlayed(t, with(s, map[int]api.Cell{api.LnextF: {}}), 9, api.State{}, []byte{22, 3}, came(api.State{}, signalE(api.IpF)))
}

// P13.2: InsrtF and OverF, where Over is set and where it is not, and what is typed then.
func TestOver(t *testing.T) {
	s := table.Standard()
	for _, over := range both {
		for _, c := range []struct {
			k    byte
			want bool
		}{{9, false}, {16, true}} {
			for at := range len(words) + 1 {
				wantPlayed(t, s, 0, set(stateOf(words, at), over, false), []byte{c.k}, came(set(stateOf(words, at), c.want, false)))
			}
			wantPlayed(t, s, 0, set(api.State{}, over, false), []byte{c.k}, came(api.State{Over: c.want}))
		}
	}
	wantPlayed(t, s, 9, stateOf("abc", 1), []byte{16, 'x'}, came(set(stateOf("axc", 2), true, false)))
	wantPlayed(t, s, 9, stateOf("abc", 1), []byte{16, 'x', 'y', 'z'}, came(set(stateOf("axyz", 4), true, false)))
	wantPlayed(t, s, 9, stateOf("abc", 1), []byte{16, 'x', 9, 'y'}, came(stateOf("axyc", 3)))
	wantPlayed(t, s, 3, stateOf("abc", 1), []byte{16, 'x', 'y', 'z'}, rang(set(stateOf("axy", 3), true, false)))
	wantPlayed(t, s, 9, api.State{}, []byte{16, 'a', 13, 'b', 'c', 1, 'd'}, came(stateOf("dbc", 1), lineE("a")))
}

// P13.2: RpF, XonF and XoffF change nothing.
func TestNothing(t *testing.T) {
	for _, s := range slices.Concat(states(), longStates()) {
		if s.Lit {
			continue
		}
		for _, keys := range []string{"\x12", "\x11", "\x13", "\x12\x11\x13\x12"} {
			for _, room := range []int{math.MinInt, 0, 4096} {
				wantPlayed(t, table.Standard(), room, s, []byte(keys), modelOf(s))
			}
		}
	}
}

// P13.2: room below, at and above how many octets there are, and above how many there may be.
func TestRoom(t *testing.T) {
	s := table.Standard()
	for _, room := range append([]int{0, -1, 1, 2, 3, 4095, 4096}, wide...) {
		for _, x := range slices.Concat([]api.State{{}, {Lit: true}, stateOf("ab", 0), stateOf("ab", 1), stateOf("ab", 2), set(stateOf("ab", 1), true, false), set(stateOf("ab", 2), true, true)}, longStates()) {
			n := len(x.L.B)
			want := rang(set(x, x.Over, false))
			if n < room && n < 4096 || x.Over && x.L.At < n {
				at := x.L.At
				rest := at
				if x.Over {
					rest = min(at+1, n)
				}
				b := slices.Concat(x.L.B[:at], []byte("x"), x.L.B[rest:])
				want = came(set(api.State{L: api.Line{B: b, At: at + 1}}, x.Over, false))
			}
			wantPlayed(t, s, room, x, []byte("x"), want)
		}
	}
	for _, room := range []int{0, 1, 2, 3, 4, 5} {
		m := came(stateOf("abcd"[:min(room, 4)], min(room, 4)))
		m.bells = max(4-room, 0)
		wantPlayed(t, s, room, api.State{}, []byte("abcd"), m)
	}
	for _, room := range []int{4095, 4096, 4097, math.MaxInt} {
		keys := chance(room, 5000, "abc ")
		m := came(stateOf(string(keys[:min(room, 4096)]), min(room, 4096)))
		m.bells = 5000 - min(room, 4096)
		wantPlayed(t, s, room, api.State{}, keys, m)
	}
}

// P13.2: a table by which a function's key is another one, one by which it has none, and one that may not be.
func TestTables(t *testing.T) {
	s := table.Standard()
	moved := with(s, map[int]api.Cell{api.EcF: {Level: api.Value, V: 'q'}, api.IpF: {Level: api.CantChange, V: 'z'}, api.LnextF: {Level: api.Value, V: '\\'}})
	wantPlayed(t, moved, 9, api.State{}, []byte("abqc\x7f\x03\r"), came(api.State{}, lineE("ac\x7f\x03")))
	wantPlayed(t, moved, 9, api.State{}, []byte("ab\\q\\z\\\\\r"), came(api.State{}, lineE("abqz\\")))
	wantPlayed(t, moved, 9, api.State{}, []byte("abz\x16"), came(stateOf("\x16", 1), signalE(api.IpF)))
	without := with(s, map[int]api.Cell{api.EcF: {}, api.IpF: {}, api.EofF: {}})
	wantPlayed(t, without, 9, api.State{}, []byte("a\x7f\x03\x04\r"), came(api.State{}, lineE("a\x7f\x03\x04")))
	wantPlayed(t, with(s, map[int]api.Cell{api.ElF: {Level: api.Value, V: 127}}), 9, api.State{}, []byte("ab\x7f"), came(stateOf("a", 1)))
	wantPlayed(t, with(s, map[int]api.Cell{api.ElF: {Level: api.Value, V: 127}, api.EcF: {}}), 9, api.State{}, []byte("ab\x7f"), came(api.State{}))
	wantPlayed(t, with(s, map[int]api.Cell{api.IpF: {Level: api.Value, V: 13}}), 9, api.State{}, []byte("a\r"), came(api.State{}, lineE("a")))
	odd := with(s, map[int]api.Cell{0: {Level: api.Value, V: 'a'}, api.EcF: {Level: 99, V: 'q'}, api.IpF: {V: 'z'}})
	wantPlayed(t, odd, 9, api.State{}, []byte("abqz\r"), came(api.State{}, lineE("az")))
}

// P13.2: a state that may not be comes back as it is, and nothing comes of it.
func TestOddStates(t *testing.T) {
	for _, s := range oddStates() {
		for _, keys := range []string{"", "a", "\r", "\x03", "\x16", "\x10", "\x15", "\x0f", "ab\x7f\r\x03"} {
			in, inKeys := sparedState(s), spared([]byte(keys))
			got, events, bells := editor.Play(full(), 80, in, inKeys)
			if !sameState(got, s) || len(events) != 0 || bells != 0 {
				t.Fatalf("Play of %q, %s: %s, %s, %d", keys, brief(s), brief(got), briefEvents(events), bells)
			}
			wantAsItWas(t, in.L.B, s.L.B)
			wantApart(t, got.L.B, in.L.B)
			if len(keys) != 1 {
				continue
			}
			got, events, bell := editor.Key(full(), 0, in, keys[0])
			if !sameState(got, s) || len(events) != 0 || bell {
				t.Fatalf("Key of %q, %s: %s, %s, %v", keys, brief(s), brief(got), briefEvents(events), bell)
			}
			wantAsItWas(t, in.L.B, s.L.B)
			wantApart(t, got.L.B, in.L.B)
		}
		for _, f := range []int{-1, 0, 1, 3, 4, 5, 6, 8, 9, 10, 31} {
			wantSignal(t, s, f, s, nil, api.ErrArg)
		}
	}
}

// P13.3: keys in two goes are as in one, in the state, in the events and in the bells; and key by key.
func TestTwoGoes(t *testing.T) {
	for i, x := range tables() {
		for seed := range 8 {
			room := []int{2, 5, 30, 4096}[seed%4]
			keys := anyKeys(i*100+seed, 50)
			s := states()[seed*5]
			whole, events, bells := editor.Play(x, room, s, keys)
			for cut := range len(keys) + 1 {
				first, a, n := editor.Play(x, room, s, keys[:cut])
				second, b, m := editor.Play(x, room, first, keys[cut:])
				if !sameState(second, whole) || !sameEvents(append(a, b...), events) || n+m != bells {
					t.Fatalf("%q, cut at %d, room %d: %s, %d; want %s, %d", keys, cut, room, brief(second), n+m, brief(whole), bells)
				}
			}
			wantKeyByKey(t, x, room, s, keys)
		}
	}
}

// wantKeyByKey looks that Key comes to what Play does, and has one event at the most.
func wantKeyByKey(t *testing.T, x api.Table, room int, s api.State, keys []byte) {
	t.Helper()
	whole, events, bells := editor.Play(x, room, s, keys)
	var all []api.Event
	rung := 0
	for _, k := range keys {
		next, l, bell := editor.Key(x, room, s, k)
		if len(l) > 1 || bell && len(l) > 0 {
			t.Fatalf("Key of %d, %s: %s, %v", k, brief(s), briefEvents(l), bell)
		}
		s, all = next, append(all, l...)
		if bell {
			rung++
		}
	}
	if !sameState(s, whole) || !sameEvents(all, events) || rung != bells {
		t.Fatalf("%q, room %d, key by key: %s, %d; want %s, %d", keys, room, brief(s), rung, brief(whole), bells)
	}
}

// P13.3: events that were answered, and states, stay as they were behind each later call.
func TestEventsStay(t *testing.T) {
	for seed := range 12 {
		s := api.State{}
		var was, had []api.Event
		var states, stay []api.State
		for i, k := range anyKeys(seed, 600) {
			next, l, _ := editor.Key(full(), 12, s, k)
			if i%7 == 0 {
				var more []api.Event
				next, more, _ = editor.Signal(next, 1+i%9)
				l = append(l, more...)
			}
			had, was = append(had, l...), append(was, copied(l)...)
			states, stay = append(states, s), append(stay, sparedState(s))
			s = next
		}
		if !sameEvents(had, was) || !slices.EqualFunc(states, stay, sameState) {
			t.Errorf("seed %d: events or states changed behind later calls", seed)
		}
		wantApart(t, rows(s, had)...)
	}
}

// P13.3: what is typed with Lit set is itself, or a bell, and never anything else.
func TestLitIsItself(t *testing.T) {
	for _, x := range slices.Concat(tables(), oddTables()) {
		for k := range 256 {
			for _, over := range both {
				s := set(stateOf("ab", 1), over, true)
				rest := "b"
				if over {
					rest = ""
				}
				wantKey(t, x, 80, s, byte(k), came(set(stateOf("a"+string([]byte{byte(k)})+rest, 2), over, false)))
				s = set(stateOf("ab", 2), over, true)
				wantKey(t, x, 2, s, byte(k), rang(set(s, over, false)))
			}
		}
	}
}

// P13.3: a state that may be stays one, whatever is typed and whatever signals come.
func TestStaysAState(t *testing.T) {
	for seed, room := range []int{math.MinInt, 0, 1, 7, 4096, math.MaxInt} {
		for _, s := range slices.Concat(states(), longStates()) {
			most := max(len(s.L.B), min(room, 4096))
			for i, k := range anyKeys(seed, 80) {
				s, _, _ = editor.Key(full(), room, s, k)
				if i%40 == 39 {
					s, _, _ = editor.Signal(s, 1+(seed+i)%9)
				}
				if editor.Check(s) != api.OK || len(s.L.B) > most {
					t.Fatalf("room %d, key %d: %s", room, i, brief(s))
				}
			}
		}
	}
}
