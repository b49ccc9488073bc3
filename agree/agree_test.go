package agree_test

import (
	"math"
	"slices"
	"testing"

	"linnet/agree"
	"linnet/api"
	"linnet/slc"
	"linnet/table"
)

var both = []bool{false, true}

// someKeys are keys at which something ends, or begins.
var someKeys = []byte{0, 1, 3, 9, 13, 127, 128, 254, 255}

// noLevels are numbers of which neither a pref nor a cell may be, those among them that would be if they were cut to fewer bits.
var noLevels = []int{
	3, -1, 4, 5, 6, -2, -3, -128, 127, 128, 130, 255, 256, 257, 258, -254, -255, -256, 1 << 16, 1<<16 + 1, 1 << 31, -1 << 31,
	1 << 32, 1<<32 + 1, 1<<32 + 2, -1 << 32, -1<<32 + 2, math.MaxInt, math.MinInt, math.MinInt + 1, math.MinInt + 2,
}

// noOctets are numbers of which no triple's F may be, those among them that would be if they were cut to fewer bits.
var noOctets = []int{
	-1, 256, -2, -3, -30, -255, -256, -253, 257, 259, 286, 512, 515, 1 << 16, 1<<16 + 3, 1<<31 - 1, 1 << 31, -1 << 31, -1<<31 + 3,
	1 << 32, 1<<32 + 3, -1 << 32, -1<<32 + 3, math.MaxInt, math.MinInt, math.MinInt + 3,
}

// rows are what is settled, written out: each Most with each Level that may be proposed, of the pref's own key, 3, and of another one, 9. The pref of NoSupport has no key, so 0 is its own.
var rows = []struct {
	own      api.Pref
	proposed api.Cell
	settled  api.Cell
}{
	{api.Pref{Most: 0}, api.Cell{Level: 0, V: 0}, api.Cell{Level: 0, V: 0}},
	{api.Pref{Most: 0}, api.Cell{Level: 0, V: 9}, api.Cell{Level: 0, V: 0}},
	{api.Pref{Most: 0}, api.Cell{Level: 1, V: 0}, api.Cell{Level: 0, V: 0}},
	{api.Pref{Most: 0}, api.Cell{Level: 1, V: 9}, api.Cell{Level: 0, V: 0}},
	{api.Pref{Most: 0}, api.Cell{Level: 2, V: 0}, api.Cell{Level: 0, V: 0}},
	{api.Pref{Most: 0}, api.Cell{Level: 2, V: 9}, api.Cell{Level: 0, V: 0}},
	{api.Pref{Most: 0}, api.Cell{Level: 3, V: 0}, api.Cell{Level: 0, V: 0}},
	{api.Pref{Most: 0}, api.Cell{Level: 3, V: 9}, api.Cell{Level: 0, V: 0}},
	{api.Pref{Most: 1, V: 3}, api.Cell{Level: 0, V: 3}, api.Cell{Level: 0, V: 0}},
	{api.Pref{Most: 1, V: 3}, api.Cell{Level: 0, V: 9}, api.Cell{Level: 0, V: 0}},
	{api.Pref{Most: 1, V: 3}, api.Cell{Level: 1, V: 3}, api.Cell{Level: 1, V: 3}},
	{api.Pref{Most: 1, V: 3}, api.Cell{Level: 1, V: 9}, api.Cell{Level: 0, V: 0}},
	{api.Pref{Most: 1, V: 3}, api.Cell{Level: 2, V: 3}, api.Cell{Level: 1, V: 3}},
	{api.Pref{Most: 1, V: 3}, api.Cell{Level: 2, V: 9}, api.Cell{Level: 1, V: 3}},
	{api.Pref{Most: 1, V: 3}, api.Cell{Level: 3, V: 3}, api.Cell{Level: 1, V: 3}},
	{api.Pref{Most: 1, V: 3}, api.Cell{Level: 3, V: 9}, api.Cell{Level: 1, V: 3}},
	{api.Pref{Most: 2, V: 3}, api.Cell{Level: 0, V: 3}, api.Cell{Level: 0, V: 0}},
	{api.Pref{Most: 2, V: 3}, api.Cell{Level: 0, V: 9}, api.Cell{Level: 0, V: 0}},
	{api.Pref{Most: 2, V: 3}, api.Cell{Level: 1, V: 3}, api.Cell{Level: 1, V: 3}},
	{api.Pref{Most: 2, V: 3}, api.Cell{Level: 1, V: 9}, api.Cell{Level: 1, V: 9}},
	{api.Pref{Most: 2, V: 3}, api.Cell{Level: 2, V: 3}, api.Cell{Level: 2, V: 3}},
	{api.Pref{Most: 2, V: 3}, api.Cell{Level: 2, V: 9}, api.Cell{Level: 2, V: 9}},
	{api.Pref{Most: 2, V: 3}, api.Cell{Level: 3, V: 3}, api.Cell{Level: 2, V: 3}},
	{api.Pref{Most: 2, V: 3}, api.Cell{Level: 3, V: 9}, api.Cell{Level: 2, V: 3}},
}

// settledByRule goes down the chapter's table, and takes the first row that fits.
func settledByRule(p api.Pref, level int, key byte) api.Cell {
	if level == 0 || p.Most == 0 {
		return api.Cell{}
	}
	if p.Most == 1 && level == 1 && key != p.V {
		return api.Cell{}
	}
	if p.Most == 1 {
		return api.Cell{Level: 1, V: p.V}
	}
	if level == 3 {
		return api.Cell{Level: 2, V: p.V}
	}
	return api.Cell{Level: level, V: key}
}

// picks are numbers that look like chance, and are the same each time.
func picks(seed uint32) func(below int) int {
	return func(below int) int {
		seed = seed*1664525 + 1013904223
		return int(seed>>8) % below
	}
}

// rightPrefs are what a pref may be, of some keys.
func rightPrefs() []api.Pref {
	l := []api.Pref{{}}
	for _, key := range someKeys {
		l = append(l, api.Pref{Most: 1, V: key}, api.Pref{Most: 2, V: key})
	}
	return l
}

// wrongPrefs are what a pref may not be, for its Most, or for a key of NoSupport.
func wrongPrefs() []api.Pref {
	var l []api.Pref
	for _, most := range noLevels {
		for _, key := range someKeys {
			l = append(l, api.Pref{Most: most, V: key})
		}
	}
	for key := 1; key < 256; key++ {
		l = append(l, api.Pref{V: byte(key)})
	}
	return l
}

// filled is prefs that are one, of all functions.
func filled(p api.Pref) api.Prefs {
	var l api.Prefs
	for f := 1; f <= 30; f++ {
		l[f] = p
	}
	return l
}

// with is prefs whose fth is another one, whether they may be or not.
func with(l api.Prefs, f int, p api.Pref) api.Prefs {
	l[f] = p
	return l
}

// chance is prefs that may be, of few keys, or of many.
func chance(seed int) api.Prefs {
	var l api.Prefs
	pick := picks(uint32(seed))
	below := []int{3, 16, 256}[seed%3]
	for f := 1; f <= 30; f++ {
		if most := pick(3); most > 0 {
			l[f] = api.Pref{Most: most, V: byte(pick(below))}
		}
	}
	return l
}

// mayBePrefs are prefs that may be.
func mayBePrefs() []api.Prefs {
	l := []api.Prefs{{}, {3: {Most: 2, V: 3}, 10: {Most: 1, V: 127}}}
	for _, p := range rightPrefs() {
		l = append(l, filled(p))
		for _, f := range []int{1, 2, 17, 30} {
			l = append(l, with(api.Prefs{}, f, p), with(chance(f), f, p))
		}
	}
	for seed := range 60 {
		l = append(l, chance(seed))
	}
	return l
}

// mayNotBePrefs are prefs that may not be: by one, by the last one, by the 0th, by all.
func mayNotBePrefs() []api.Prefs {
	var l []api.Prefs
	for _, p := range wrongPrefs() {
		l = append(l, filled(p))
		for _, f := range []int{0, 1, 2, 13, 29, 30} {
			l = append(l, with(api.Prefs{}, f, p), with(chance(1), f, p))
		}
	}
	for _, p := range rightPrefs()[1:] {
		l = append(l, api.Prefs{0: p}, with(chance(1), 0, p))
	}
	return l
}

// wrongTriples may not be, by F, by Level, or by both, also where F is no function.
func wrongTriples() []api.Triple {
	var l []api.Triple
	for _, f := range noOctets {
		for _, level := range []int{0, 1, 2, 3, -1, 4} {
			l = append(l, api.Triple{F: f, Level: level}, api.Triple{F: f, Level: level, Ack: true, In: true, Out: true, V: 3})
		}
	}
	for _, level := range noLevels[1:] {
		for _, f := range []int{0, 1, 3, 10, 30, 31, 255} {
			l = append(l, api.Triple{F: f, Level: level}, api.Triple{F: f, Level: level, Ack: true, In: true, Out: true, V: 3})
		}
	}
	return l
}

// wantSettled looks at what is settled, and at what is answered, with each of the marks.
func wantSettled(t *testing.T, p api.Prefs, f int, proposed, want api.Cell) {
	t.Helper()
	before := p
	for _, ack := range both {
		for _, in := range both {
			for _, out := range both {
				x := api.Triple{F: f, Level: proposed.Level, Ack: ack, In: in, Out: out, V: proposed.V}
				if c, e := agree.Settle(p, x); c != want || e != api.OK {
					t.Fatalf("Settle by %v of %v: %v, %d; want %v", p, x, c, e, want)
				}
				answer := api.Triple{F: f, Level: want.Level, Ack: true, In: in, Out: out, V: want.V}
				if a, e := agree.Answer(p, x); a != answer || e != api.OK {
					t.Fatalf("Answer by %v to %v: %v, %d; want %v", p, x, a, e, answer)
				}
				if x != (api.Triple{F: f, Level: proposed.Level, Ack: ack, In: in, Out: out, V: proposed.V}) {
					t.Fatalf("the triple was changed to %v", x)
				}
			}
		}
	}
	if p != before {
		t.Fatalf("%v was changed to %v", before, p)
	}
}

func wantNotSettled(t *testing.T, p api.Prefs, x api.Triple) {
	t.Helper()
	beforeP, beforeX := p, x
	if c, e := agree.Settle(p, x); c != (api.Cell{}) || e != api.ErrArg {
		t.Fatalf("Settle by %v of %v: %v, %d; want nothing, 1", p, x, c, e)
	}
	if a, e := agree.Answer(p, x); a != (api.Triple{}) || e != api.ErrArg {
		t.Fatalf("Answer by %v to %v: %v, %d; want nothing, 1", p, x, a, e)
	}
	if p != beforeP || x != beforeX {
		t.Fatalf("%v, %v were changed to %v, %v", beforeP, beforeX, p, x)
	}
}

// settle is what is settled of a proposal that may be by prefs that may.
func settle(t *testing.T, p api.Prefs, f int, proposed api.Cell) api.Cell {
	t.Helper()
	c, e := agree.Settle(p, api.Triple{F: f, Level: proposed.Level, V: proposed.V})
	if e != api.OK {
		t.Fatalf("Settle by %v of %d, %v: %d", p, f, proposed, e)
	}
	return c
}

// The numbers that the chapter writes out.
func TestNumbers(t *testing.T) {
	if got := []int{api.NoSupport, api.CantChange, api.Value, api.Default}; !slices.Equal(got, []int{0, 1, 2, 3}) {
		t.Errorf("levels: %v", got)
	}
	if api.SynchF != 1 || api.EeolF != 30 || api.Funcs != 31 {
		t.Errorf("functions: %d, %d, %d", api.SynchF, api.EeolF, api.Funcs)
	}
	if api.OK != 0 || api.ErrArg != 1 {
		t.Errorf("errors: %d, %d", api.OK, api.ErrArg)
	}
}

// The chapter's three examples.
func TestExamples(t *testing.T) {
	value := api.Prefs{api.IpF: {Most: api.Value, V: 3}}
	fixed := api.Prefs{api.IpF: {Most: api.CantChange, V: 3}}
	wantSettled(t, value, api.IpF, api.Cell{Level: api.CantChange, V: 9}, api.Cell{Level: api.CantChange, V: 9})
	wantSettled(t, fixed, api.IpF, api.Cell{Level: api.Value, V: 9}, api.Cell{Level: api.CantChange, V: 3})
	wantSettled(t, fixed, api.IpF, api.Cell{Level: api.CantChange, V: 9}, api.Cell{})
}

// P9.1: which prefs may be.
func TestCheck(t *testing.T) {
	for _, p := range mayBePrefs() {
		if e := agree.Check(p); e != api.OK {
			t.Errorf("Check of %v: %d", p, e)
		}
	}
	for _, p := range mayNotBePrefs() {
		if e := agree.Check(p); e != api.ErrArg {
			t.Errorf("Check of %v: %d", p, e)
		}
	}
}

// P9.1: each pref, with each key, at what Most may be and beside it.
func TestCheckEach(t *testing.T) {
	for f := range 31 {
		for n := range 256 {
			for most := -2; most <= 5; most++ {
				p := api.Pref{Most: most, V: byte(n)}
				want := api.ErrArg
				if most == 0 && n == 0 || f > 0 && (most == 1 || most == 2) {
					want = api.OK
				}
				if e := agree.Check(with(api.Prefs{}, f, p)); e != want {
					t.Fatalf("Check of %v at %d: %d", p, f, e)
				}
				if e := agree.Check(with(chance(f), f, p)); e != want {
					t.Fatalf("Check of %v at %d among others: %d", p, f, e)
				}
			}
		}
	}
}

// P9.1: the 0th pref is no function's, and zero, whether by its Most or by its V.
func TestCheckNought(t *testing.T) {
	for _, p := range []api.Pref{{Most: 1}, {Most: 2}, {Most: 3}, {Most: -1}, {V: 1}, {V: 255}, {Most: 1, V: 3}, {Most: 2, V: 3}} {
		for _, l := range []api.Prefs{{0: p}, with(filled(api.Pref{Most: 2, V: 3}), 0, p)} {
			if e := agree.Check(l); e != api.ErrArg {
				t.Errorf("Check of %v: %d", l, e)
			}
			wantNotSettled(t, l, api.Triple{})
			wantNotSettled(t, l, api.Triple{F: 3, Level: 2, V: 9})
		}
	}
}

// P9.1, P9.2: each row of what is settled, of each function, whatever the others' prefs are.
func TestRows(t *testing.T) {
	for _, r := range rows {
		for f := 1; f <= 30; f++ {
			wantSettled(t, with(api.Prefs{}, f, r.own), f, r.proposed, r.settled)
			wantSettled(t, with(chance(f), f, r.own), f, r.proposed, r.settled)
			wantSettled(t, filled(r.own), f, r.proposed, r.settled)
		}
	}
}

// P9.1, P9.2: the row is that of F's own pref.
func TestOwnPref(t *testing.T) {
	for f := 1; f <= 30; f++ {
		for other := 1; other <= 30; other++ {
			if other == f {
				continue
			}
			p := with(api.Prefs{}, f, api.Pref{Most: 2, V: 3})
			wantSettled(t, p, other, api.Cell{Level: 2, V: 9}, api.Cell{})
			wantSettled(t, with(p, other, api.Pref{Most: 1, V: 4}), other, api.Cell{Level: 3, V: 9}, api.Cell{Level: 1, V: 4})
			wantSettled(t, with(p, other, api.Pref{Most: 1, V: 4}), f, api.Cell{Level: 3, V: 9}, api.Cell{Level: 2, V: 3})
		}
	}
}

// P9.1, P9.2: each Most with each Level, of all keys with all keys.
func TestAllKeys(t *testing.T) {
	for own := range 256 {
		for most := range 3 {
			p := api.Pref{Most: most, V: byte(own)}
			if most == 0 && own != 0 {
				continue
			}
			l := api.Prefs{17: p}
			for key := range 256 {
				for level := range 4 {
					x := api.Triple{F: 17, Level: level, In: key%2 == 1, V: byte(key)}
					want := settledByRule(p, level, byte(key))
					if c, e := agree.Settle(l, x); c != want || e != api.OK {
						t.Fatalf("Settle by %v of %v: %v, %d; want %v", p, x, c, e, want)
					}
					answer := api.Triple{F: 17, Level: want.Level, Ack: true, In: key%2 == 1, V: want.V}
					if a, e := agree.Answer(l, x); a != answer || e != api.OK {
						t.Fatalf("Answer by %v to %v: %v, %d; want %v", p, x, a, e, answer)
					}
				}
			}
		}
	}
}

// P9.1, P9.2: key 0 is a key as others are.
func TestKeyNought(t *testing.T) {
	nought := api.Prefs{8: {Most: 1}, 9: {Most: 2}}
	wantSettled(t, nought, 8, api.Cell{Level: 1}, api.Cell{Level: 1})
	wantSettled(t, nought, 8, api.Cell{Level: 1, V: 255}, api.Cell{})
	wantSettled(t, nought, 8, api.Cell{Level: 2, V: 255}, api.Cell{Level: 1})
	wantSettled(t, nought, 9, api.Cell{Level: 3, V: 255}, api.Cell{Level: 2})
	wantSettled(t, nought, 9, api.Cell{Level: 2}, api.Cell{Level: 2})
	wantSettled(t, api.Prefs{8: {Most: 1, V: 255}}, 8, api.Cell{Level: 1}, api.Cell{})
	wantSettled(t, api.Prefs{8: {Most: 2, V: 255}}, 8, api.Cell{Level: 1}, api.Cell{Level: 1})
}

// P9.1, P9.2: each F: of those that are no function nothing is settled, and the answer is of that F.
func TestEachF(t *testing.T) {
	for f := range 256 {
		for _, own := range []api.Pref{{}, {Most: 1, V: 3}, {Most: 2, V: 3}} {
			for level := range 4 {
				for _, key := range []byte{0, 3, 9, 255} {
					want := api.Cell{}
					if f >= 1 && f <= 30 {
						want = settledByRule(own, level, key)
					}
					wantSettled(t, filled(own), f, api.Cell{Level: level, V: key}, want)
				}
			}
		}
	}
}

// P9.1, P9.2: triples that may not be.
func TestWrongTriples(t *testing.T) {
	for _, x := range wrongTriples() {
		if e := slc.Check(x); e != api.ErrArg {
			t.Fatalf("%v may be", x)
		}
		for _, p := range []api.Prefs{{}, chance(1), filled(api.Pref{Most: 1, V: 3}), filled(api.Pref{Most: 2, V: 3})} {
			wantNotSettled(t, p, x)
		}
	}
}

// P9.1, P9.2: prefs that may not be, also where the pref of F may, and where F is no function, or the triple may not be either.
func TestWrongPrefs(t *testing.T) {
	for _, p := range mayNotBePrefs() {
		for _, x := range []api.Triple{
			{}, {F: 3}, {F: 3, Level: 2, V: 9}, {F: 1, Level: 1}, {F: 30, Level: 3, Ack: true, In: true, Out: true, V: 255},
			{F: 31, Level: 2, V: 9}, {F: 255, Level: 3}, {F: 256}, {F: -1}, {F: 3, Level: 4}, {F: 3, Level: -1},
		} {
			wantNotSettled(t, p, x)
		}
	}
}

// P9.2: an answer may be told, and it always has Ack.
func TestAnswersMayBe(t *testing.T) {
	for _, p := range mayBePrefs() {
		for f := range 256 {
			for level := range 4 {
				x := api.Triple{F: f, Level: level, Out: true, V: byte(f)}
				a, e := agree.Answer(p, x)
				if e != api.OK || slc.Check(a) != api.OK || !a.Ack || a.F != f || a.In || !a.Out || a.Level == 3 || a.Level == 0 && a.V != 0 {
					t.Fatalf("Answer by %v to %v: %v, %d", p, x, a, e)
				}
			}
		}
	}
}

// P9.3: the first table has the cells that the prefs say, and may be.
func TestFirst(t *testing.T) {
	for _, p := range mayBePrefs() {
		before := p
		got, e := agree.First(p)
		if e != api.OK || table.Check(got) != api.OK {
			t.Fatalf("First of %v: %v, %d", p, got, e)
		}
		for f := range 31 {
			if got[f] != (api.Cell{Level: p[f].Most, V: p[f].V}) {
				t.Fatalf("First of %v: %v at %d", p, got[f], f)
			}
		}
		if p != before {
			t.Fatalf("First of %v changed it to %v", before, p)
		}
	}
	want := api.Table{3: {Level: 2, V: 3}, 10: {Level: 1, V: 127}, 30: {Level: 2}}
	if got, e := agree.First(api.Prefs{3: {Most: 2, V: 3}, 10: {Most: 1, V: 127}, 30: {Most: 2}}); got != want || e != api.OK {
		t.Errorf("First: %v, %d", got, e)
	}
}

// P9.3: of prefs that may not be there is no first table.
func TestFirstWrong(t *testing.T) {
	for _, p := range mayNotBePrefs() {
		before := p
		if got, e := agree.First(p); got != (api.Table{}) || e != api.ErrArg {
			t.Fatalf("First of %v: %v, %d", p, got, e)
		}
		if p != before {
			t.Fatalf("First of %v changed it to %v", before, p)
		}
	}
}

// asTable is a table of the prefs' cells, whether it may be or not.
func asTable(p api.Prefs) api.Table {
	var l api.Table
	for f := range 31 {
		l[f] = api.Cell{Level: p[f].Most, V: p[f].V}
	}
	return l
}

func wantWhole(t *testing.T, x api.Table) []api.Triple {
	t.Helper()
	before := x
	l, e := agree.Whole(x)
	if len(l) != 30 || e != api.OK {
		t.Fatalf("Whole of %v: %v, %d", x, l, e)
	}
	for i, got := range l {
		if got != (api.Triple{F: i + 1, Level: x[i+1].Level, V: x[i+1].V}) || slc.Check(got) != api.OK {
			t.Fatalf("Whole of %v: %v at %d", x, got, i)
		}
	}
	if x != before {
		t.Fatalf("Whole of %v changed it to %v", before, x)
	}
	return l
}

// P9.3: a whole table, of the standard table, the table of zeros, and others.
func TestWhole(t *testing.T) {
	wantWhole(t, api.Table{})
	l := wantWhole(t, table.Standard())
	for _, want := range []api.Triple{{F: 1}, {F: 2}, {F: 3, Level: 2, V: 3}, {F: 10, Level: 2, V: 127}, {F: 17}, {F: 30, Level: 2, V: 11}} {
		if l[want.F-1] != want {
			t.Errorf("Whole of the standard table: %v; want %v", l[want.F-1], want)
		}
	}
	for _, p := range mayBePrefs() {
		wantWhole(t, asTable(p))
	}
}

// P9.3: each time the triples are anew.
func TestWholeAnew(t *testing.T) {
	l := wantWhole(t, table.Standard())
	for i := range l {
		l[i] = api.Triple{F: 99, Level: 3, V: 99}
	}
	wantWhole(t, table.Standard())
}

// P9.3: of a table that may not be there are no triples.
func TestWholeWrong(t *testing.T) {
	for _, p := range mayNotBePrefs() {
		x := asTable(p)
		if l, e := agree.Whole(x); len(l) != 0 || e != api.ErrArg {
			t.Fatalf("Whole of %v: %v, %d", x, l, e)
		}
		if x != asTable(p) {
			t.Fatalf("Whole changed the table to %v", x)
		}
	}
	for f := range 31 {
		for _, c := range []api.Cell{{Level: 3}, {Level: -1}, {Level: 3, V: 3}, {V: 1}, {V: 255}} {
			x := table.Standard()
			x[f] = c
			if l, e := agree.Whole(x); len(l) != 0 || e != api.ErrArg {
				t.Fatalf("Whole with %v at %d: %v, %d", c, f, l, e)
			}
		}
	}
}

// proposals are what may be proposed, of some keys.
func proposals() []api.Cell {
	var l []api.Cell
	for level := range 4 {
		for _, key := range someKeys {
			l = append(l, api.Cell{Level: level, V: key})
		}
	}
	return l
}

// P9.4: what is settled is no higher than what was proposed, nor than the pref; a table may have it; proposed again, it is settled as it is.
func TestSettledStays(t *testing.T) {
	for f := 1; f <= 30; f++ {
		for _, own := range rightPrefs() {
			p := with(chance(f), f, own)
			for _, x := range proposals() {
				c := settle(t, p, f, x)
				if c.Level > x.Level || c.Level > own.Most {
					t.Fatalf("by %v of %v: %v is higher", own, x, c)
				}
				if _, e := table.With(api.Table{}, f, c); e != api.OK {
					t.Fatalf("by %v of %v: no table may have %v", own, x, c)
				}
				if again := settle(t, p, f, c); again != c {
					t.Fatalf("by %v of %v: %v, and then %v", own, x, c, again)
				}
			}
		}
	}
}

// P9.4: what one end settles, and the other one of that, both settle as it is.
func TestBothSettle(t *testing.T) {
	for _, own := range rightPrefs() {
		for _, others := range rightPrefs() {
			here, there := api.Prefs{10: own}, api.Prefs{10: others}
			for _, x := range proposals() {
				c := settle(t, there, 10, settle(t, here, 10, x))
				if a, b := settle(t, here, 10, c), settle(t, there, 10, c); a != c || b != c {
					t.Fatalf("by %v and %v of %v: %v, and then %v and %v", own, others, x, c, a, b)
				}
			}
		}
	}
}

// P9.4: the answer of an answer is the same at both ends, of whole tables too.
func TestAnswersMeet(t *testing.T) {
	for seed := range 40 {
		here, there := chance(seed), chance(seed+100)
		first, e := agree.First(here)
		if e != api.OK {
			t.Fatalf("First: %d", e)
		}
		for _, x := range wantWhole(t, first) {
			one, e1 := agree.Answer(there, x)
			two, e2 := agree.Answer(here, one)
			three, e3 := agree.Answer(there, two)
			four, e4 := agree.Answer(here, three)
			if e1 != api.OK || e2 != api.OK || e3 != api.OK || e4 != api.OK || three != two || four != two {
				t.Fatalf("of %v: %v, %v, %v, %v", x, one, two, three, four)
			}
		}
	}
}

// P9.4: a first table is as its own prefs settle it.
func TestFirstStays(t *testing.T) {
	for _, p := range mayBePrefs() {
		first, e := agree.First(p)
		if e != api.OK {
			t.Fatalf("First of %v: %d", p, e)
		}
		for _, x := range wantWhole(t, first) {
			if c := settle(t, p, x.F, api.Cell{Level: x.Level, V: x.V}); c != first[x.F] {
				t.Fatalf("by %v of %v: %v", p, x, c)
			}
		}
	}
}
