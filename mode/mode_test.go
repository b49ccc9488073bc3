package mode_test

import (
	"math"
	"slices"
	"testing"

	"linnet/api"
	"linnet/mode"
	"linnet/subopt"
)

var both = []bool{false, true}

// rightModes are all that a mode may be, without AckM.
var rightModes = []int{0, 1, 2, 3, 8, 9, 10, 11, 16, 17, 18, 19, 24, 25, 26, 27}

// noModes are no mode of asks, or of rules, for a bit that no mode has: AckM, or others, those among them that would be a mode if they were cut to fewer bits.
var noModes = []int{
	4, 5, 7, 12, 20, 31, 32, 33, 35, 64, 128, 255, 256, 259, -1, -2, -4, -5, -27, -28, -32, -256, -253, 1 << 16, 1<<16 + 3,
	1 << 31, -1 << 31, 1 << 32, 1<<32 + 3, -1 << 32, -1<<32 + 3, math.MaxInt, math.MinInt, math.MinInt + 3,
}

// outOfRange may not be asked for.
var outOfRange = []int{
	32, 33, 35, 36, 63, 64, 255, 256, 259, -1, -2, -5, -27, -32, -253, 1 << 16, 1<<16 + 3, 1 << 32, 1<<32 + 3, -1<<32 + 3, math.MaxInt, math.MinInt, math.MinInt + 3,
}

var noCounts = []int{-1, -2, -65536, 65537, 65538, 1 << 17, 1 << 31, -1 << 31, 1 << 32, 1<<32 + 1, -1<<32 + 1, math.MaxInt, math.MaxInt - 1, math.MinInt, math.MinInt + 1}

var someCounts = []int{0, 1, 2, 3, 65534, 65535, 65536}

// someMasks are masks of no key, of the first one, of the last one, of some, and of all.
var someMasks = []api.Mask{{}, {128}, {31: 1}, {1, 2, 3, 17: 255}, allKeys()}

func allKeys() api.Mask {
	var m api.Mask
	for i := range m {
		m[i] = 255
	}
	return m
}

// oneKey are the masks of each key alone.
func oneKey() []api.Mask {
	var l []api.Mask
	for c := range 256 {
		var m api.Mask
		m[c/8] = byte(128 >> (c % 8))
		l = append(l, m)
	}
	return l
}

func modeS(m int) api.Sub { return api.Sub{Kind: 1, Mode: m} }

func verbS(verb int) api.Sub { return api.Sub{Kind: 2, Verb: verb} }

func doS(m api.Mask) api.Sub { return api.Sub{Kind: 2, Verb: 253, M: m} }

var functionsS = []api.Sub{{Kind: 3}, {Kind: 3, L: []api.Triple{}}, {Kind: 3, L: []api.Triple{{F: 3, Level: 2, V: 3}, {F: 10, Ack: true}}}}

// wrongSubs may not be: by the kind, by a part that the kind names, or by one that it does not.
func wrongSubs() []api.Sub {
	l := []api.Sub{
		{}, {Kind: 4}, {Kind: -1}, {Kind: 257}, {Kind: 1<<32 + 1}, {Kind: 1<<32 + 2, Verb: 251}, {Kind: math.MinInt}, {Kind: 0, Mode: 4}, {Kind: 4, Verb: 251},
		{Kind: 1, Mode: 4, Verb: 251}, {Kind: 1, Verb: 251}, {Kind: 1, Mode: 7, M: api.Mask{1}}, {Kind: 1, M: api.Mask{31: 1}}, {Kind: 1, Mode: 7, L: []api.Triple{{}}}, {Kind: 1, L: []api.Triple{{}}},
		{Kind: 2}, {Kind: 2, Verb: 250}, {Kind: 2, Verb: 255}, {Kind: 2, Verb: -5}, {Kind: 2, Verb: 251 + 256}, {Kind: 2, Verb: 251 + 1<<32}, {Kind: 2, Verb: math.MaxInt},
		{Kind: 2, Verb: 251, Mode: 4}, {Kind: 2, Verb: 253, Mode: 1}, {Kind: 2, Verb: 251, M: api.Mask{1}}, {Kind: 2, Verb: 252, M: api.Mask{1}}, {Kind: 2, Verb: 254, M: api.Mask{31: 1}}, {Kind: 2, Verb: 253, L: []api.Triple{{}}},
		{Kind: 3, Mode: 4}, {Kind: 3, Verb: 251}, {Kind: 3, M: api.Mask{1}}, {Kind: 3, L: []api.Triple{{Level: 4}}}, {Kind: 3, L: []api.Triple{{F: 256}}}, {Kind: 3, L: make([]api.Triple, 171)},
	}
	for _, m := range outOfRange {
		l = append(l, modeS(m))
	}
	return l
}

// rightAsks are asks that may be, by each part at the places where something begins or ends.
func rightAsks() []api.Asks {
	var l []api.Asks
	for i, waits := range someCounts {
		for j, masks := range someCounts {
			for k, m := range someMasks {
				a := api.Asks{Asked: rightModes[(i*5+j)%16], Has: rightModes[(j*7+k)%16], Waits: waits, Masks: masks, On: true, Forward: m}
				off, got, no := a, a, a
				off.On, off.Forward = false, api.Mask{}
				got.GotOn, got.Got = true, someMasks[(i+k)%len(someMasks)]
				no.On, no.Forward, no.GotOn, no.Got = false, api.Mask{}, true, m
				l = append(l, a, off, got, no)
			}
		}
	}
	return append(l, api.Asks{})
}

// wrongAsks may not be, each by one part alone, but for a few by more.
func wrongAsks() []api.Asks {
	var l []api.Asks
	good := api.Asks{Asked: 3, Has: 1, Waits: 2, Masks: 1, On: true, Forward: api.Mask{1}, GotOn: true, Got: api.Mask{2}}
	for _, base := range []api.Asks{{}, good, {Waits: 65536, Masks: 65536}} {
		for _, n := range noModes {
			asked, has := base, base
			asked.Asked, has.Has = n, n
			l = append(l, asked, has)
		}
		for _, n := range noCounts {
			waits, masks := base, base
			waits.Waits, masks.Masks = n, n
			l = append(l, waits, masks)
		}
		for _, m := range append(oneKey(), someMasks[1:]...) {
			forward, got := base, base
			forward.On, forward.Forward = false, m
			got.GotOn, got.Got = false, m
			l = append(l, forward, got)
		}
	}
	return append(l, api.Asks{Asked: 4, Has: 4, Waits: -1, Masks: -1, Forward: api.Mask{1}, Got: api.Mask{1}})
}

func rightRules() []api.Rules {
	var l []api.Rules
	for _, n := range rightModes {
		for _, may := range both {
			l = append(l, api.Rules{Mode: n, May: may})
			for _, m := range someMasks {
				l = append(l, api.Rules{Mode: n, May: may, On: true, M: m})
			}
		}
	}
	return l
}

func wrongRules() []api.Rules {
	var l []api.Rules
	for _, may := range both {
		for _, n := range noModes {
			l = append(l, api.Rules{Mode: n, May: may}, api.Rules{Mode: n, May: may, On: true, M: api.Mask{1}})
		}
		for _, m := range append(oneKey(), someMasks[1:]...) {
			l = append(l, api.Rules{May: may, M: m}, api.Rules{Mode: 3, May: may, M: m})
		}
	}
	return l
}

// someSubs may all be: each mode, each verb, and functions.
func someSubs() []api.Sub {
	var l []api.Sub
	for n := range 32 {
		l = append(l, modeS(n))
	}
	for verb := 251; verb <= 254; verb++ {
		l = append(l, verbS(verb))
	}
	for _, m := range someMasks[1:] {
		l = append(l, doS(m))
	}
	return append(l, functionsS...)
}

// copied is a sub with triples of its own, to hold the first against.
func copied(s api.Sub) api.Sub {
	s.L = slices.Clone(s.L)
	return s
}

// wantTold looks at what is told, and that it is nobody else's: changed, it is told again as it was.
func wantTold(t *testing.T, what string, ask func() []api.Sub, want ...api.Sub) {
	t.Helper()
	for range 2 {
		l := ask()
		if !slices.EqualFunc(l, want, subopt.Same) {
			t.Fatalf("%s: told %v; want %v", what, l, want)
		}
		for i := range l {
			if subopt.Check(l[i]) != api.OK {
				t.Fatalf("%s: what is told may not be: %v", what, l[i])
			}
			l[i] = api.Sub{Kind: 99}
		}
	}
}

func wantMode(t *testing.T, a api.Asks, n int, want api.Asks, e api.Errno, told ...api.Sub) {
	t.Helper()
	wantTold(t, "Mode", func() []api.Sub {
		b, l, got := mode.Mode(a, n)
		if b != want || got != e {
			t.Fatalf("Mode of %v, %d: %v, %d; want %v, %d", a, n, b, got, want, e)
		}
		return l
	}, told...)
}

func wantForward(t *testing.T, a api.Asks, on bool, m api.Mask, want api.Asks, e api.Errno, told ...api.Sub) {
	t.Helper()
	wantTold(t, "Forward", func() []api.Sub {
		b, l, got := mode.Forward(a, on, m)
		if b != want || got != e {
			t.Fatalf("Forward of %v, %t, %v: %v, %d; want %v, %d", a, on, m, b, got, want, e)
		}
		return l
	}, told...)
}

func wantAnswer(t *testing.T, a api.Asks, s api.Sub, want api.Asks, e api.Errno) {
	t.Helper()
	before := copied(s)
	b, got := mode.Answer(a, s)
	if b != want || got != e {
		t.Fatalf("Answer of %v, %v: %v, %d; want %v, %d", a, s, b, got, want, e)
	}
	if !subopt.Same(s, before) {
		t.Fatalf("Answer changed %v to %v", before, s)
	}
}

func wantTake(t *testing.T, r api.Rules, s api.Sub, want api.Rules, e api.Errno, told ...api.Sub) {
	t.Helper()
	before := copied(s)
	wantTold(t, "Take", func() []api.Sub {
		b, l, got := mode.Take(r, s)
		if b != want || got != e {
			t.Fatalf("Take of %v, %v: %v, %d; want %v, %d", r, s, b, got, want, e)
		}
		return l
	}, told...)
	if !subopt.Same(s, before) {
		t.Fatalf("Take changed %v to %v", before, s)
	}
}

// P16.1: which asks, and which rules, may be.
func TestCheckAndSane(t *testing.T) {
	for _, a := range rightAsks() {
		if e := mode.Check(a); e != api.OK {
			t.Fatalf("Check of %v: %d", a, e)
		}
	}
	for _, a := range wrongAsks() {
		if e := mode.Check(a); e != api.ErrArg {
			t.Fatalf("Check of %v: %d", a, e)
		}
	}
	for _, r := range rightRules() {
		if e := mode.Sane(r); e != api.OK {
			t.Fatalf("Sane of %v: %d", r, e)
		}
	}
	for _, r := range wrongRules() {
		if e := mode.Sane(r); e != api.ErrArg {
			t.Fatalf("Sane of %v: %d", r, e)
		}
	}
}

// P16.1: of all numbers about the modes just those without AckM, and without a bit above them, are a mode.
func TestWhichModesMayBe(t *testing.T) {
	for n := -300; n < 600; n++ {
		want := api.ErrArg
		if slices.Contains(rightModes, n) {
			want = api.OK
		}
		asked, has, sane := mode.Check(api.Asks{Asked: n}), mode.Check(api.Asks{Has: n}), mode.Sane(api.Rules{Mode: n})
		if asked != want || has != want || sane != want {
			t.Errorf("mode %d: %d, %d, %d; want %d", n, asked, has, sane, want)
		}
	}
}

// P16.2, P16.3, P16.4: the chapter's examples.
func TestExamples(t *testing.T) {
	wantMode(t, api.Asks{}, 3, api.Asks{Asked: 3, Waits: 1}, api.OK, modeS(3))
	wantMode(t, api.Asks{Asked: 3, Waits: 1}, 3, api.Asks{Asked: 3, Waits: 1}, api.OK)
	wantTake(t, api.Rules{}, modeS(3), api.Rules{Mode: 3}, api.OK, modeS(7))
	wantAnswer(t, api.Asks{Asked: 3, Waits: 1}, modeS(7), api.Asks{Asked: 3, Has: 3}, api.OK)
	wantAnswer(t, api.Asks{Asked: 3, Has: 3}, modeS(7), api.Asks{Asked: 3, Has: 3}, api.ErrState)
}

// P16.2: modes asked for one behind the other, the same one twice, and back to one that was asked for before.
func TestModesInARow(t *testing.T) {
	a := api.Asks{Has: 27, Masks: 5, On: true, Forward: api.Mask{1}, GotOn: true, Got: api.Mask{2}}
	for i, c := range []struct {
		mode, asked, waits int
		told               bool
	}{{0, 0, 0, false}, {4, 0, 0, false}, {3, 3, 1, true}, {3, 3, 1, false}, {7, 3, 1, false}, {1, 1, 2, true}, {5, 1, 2, false}, {3, 3, 3, true}, {31, 27, 4, true}, {27, 27, 4, false}, {31, 27, 4, false}, {4, 0, 5, true}, {0, 0, 5, false}, {16, 16, 6, true}, {8, 8, 7, true}, {2, 2, 8, true}, {28, 24, 9, true}} {
		want := a
		want.Asked, want.Waits = c.asked, c.waits
		if c.told {
			wantMode(t, a, c.mode, want, api.OK, modeS(c.asked))
		} else {
			wantMode(t, a, c.mode, want, api.OK)
		}
		if a != want && !c.told {
			t.Fatalf("row %d changes asks, and tells nothing", i)
		}
		a = want
	}
}

// P16.2: each mode, by each that was asked for, at all asks that may be.
func TestModeByRule(t *testing.T) {
	for _, a := range rightAsks() {
		for n := range 32 {
			bits := n - n&4
			want := a
			want.Asked, want.Waits = bits, a.Waits+1
			switch {
			case bits == a.Asked:
				wantMode(t, a, n, a, api.OK)
			case a.Waits == 65536:
				wantMode(t, a, n, a, api.ErrFull)
			default:
				wantMode(t, a, n, want, api.OK, modeS(bits))
			}
		}
	}
}

// P16.2: with Waits at MaxWaits the mode that is asked for already is no error, and one out of range is ErrArg ahead of ErrFull.
func TestModeErrorsInOrder(t *testing.T) {
	full := api.Asks{Asked: 3, Has: 1, Waits: 65536}
	wantMode(t, full, 3, full, api.OK)
	wantMode(t, full, 7, full, api.OK)
	wantMode(t, full, 1, full, api.ErrFull)
	wantMode(t, full, 31, full, api.ErrFull)
	for _, n := range outOfRange {
		wantMode(t, full, n, full, api.ErrArg)
		wantMode(t, api.Asks{}, n, api.Asks{}, api.ErrArg)
		wantMode(t, api.Asks{Asked: n & 27, Waits: 1}, n, api.Asks{Asked: n & 27, Waits: 1}, api.ErrArg)
	}
	last := api.Asks{Asked: 3, Has: 1, Waits: 65535, Masks: 65536}
	wantMode(t, last, 1, api.Asks{Asked: 1, Has: 1, Waits: 65536, Masks: 65536}, api.OK, modeS(1))
	for _, a := range wrongAsks() {
		for _, n := range []int{0, 1, 3, 4, 27, 31, a.Asked, 32, -1} {
			wantMode(t, a, n, a, api.ErrArg)
		}
	}
}

// P16.2: keys asked for, other ones, the same ones twice, and none.
func TestKeysInARow(t *testing.T) {
	m, n := api.Mask{128}, api.Mask{31: 1}
	a := api.Asks{Asked: 3, Has: 1, Waits: 7, GotOn: true, Got: api.Mask{5}}
	for i, c := range []struct {
		on    bool
		m     api.Mask
		keys  api.Mask
		masks int
		told  []api.Sub
	}{
		{false, api.Mask{}, api.Mask{}, 0, nil},
		{false, m, api.Mask{}, 0, nil},
		{true, api.Mask{}, api.Mask{}, 1, []api.Sub{doS(api.Mask{})}},
		{true, api.Mask{}, api.Mask{}, 1, nil},
		{true, m, m, 2, []api.Sub{doS(m)}},
		{true, m, m, 2, nil},
		{true, n, n, 3, []api.Sub{doS(n)}},
		{true, m, m, 4, []api.Sub{doS(m)}},
		{false, m, api.Mask{}, 5, []api.Sub{verbS(254)}},
		{false, n, api.Mask{}, 5, nil},
		{true, m, m, 6, []api.Sub{doS(m)}},
		{true, api.Mask{}, api.Mask{}, 7, []api.Sub{doS(api.Mask{})}},
		{false, api.Mask{}, api.Mask{}, 8, []api.Sub{verbS(254)}},
	} {
		want := a
		want.On, want.Forward, want.Masks = c.on, c.keys, c.masks
		wantForward(t, a, c.on, c.m, want, api.OK, c.told...)
		if (a != want) != (len(c.told) > 0) {
			t.Fatalf("row %d: what changes is told, and nothing else", i)
		}
		a = want
	}
}

// P16.2: keys by each that were asked for, at all asks that may be.
func TestForwardByRule(t *testing.T) {
	for _, a := range rightAsks() {
		for _, m := range someMasks {
			on, off := a, a
			on.On, on.Forward, on.Masks = true, m, a.Masks+1
			off.On, off.Forward, off.Masks = false, api.Mask{}, a.Masks+1
			switch {
			case a.On && a.Forward == m:
				wantForward(t, a, true, m, a, api.OK)
			case a.Masks == 65536:
				wantForward(t, a, true, m, a, api.ErrFull)
			default:
				wantForward(t, a, true, m, on, api.OK, doS(m))
			}
			switch {
			case !a.On:
				wantForward(t, a, false, m, a, api.OK)
			case a.Masks == 65536:
				wantForward(t, a, false, m, a, api.ErrFull)
			default:
				wantForward(t, a, false, m, off, api.OK, verbS(254))
			}
		}
	}
}

// P16.2: a mask differs by a single key, whichever it is.
func TestForwardOfOneKey(t *testing.T) {
	a := api.Asks{On: true, Forward: someMasks[3]}
	for _, m := range oneKey() {
		want := api.Asks{On: true, Forward: m, Masks: 1}
		wantForward(t, a, true, m, want, api.OK, doS(m))
		wantForward(t, want, true, m, want, api.OK)
		wantForward(t, want, true, api.Mask{}, api.Asks{On: true, Masks: 2}, api.OK, doS(api.Mask{}))
	}
}

// P16.2: of asks that may not be ErrArg comes ahead of ErrFull, and of what is asked for already.
func TestForwardErrorsInOrder(t *testing.T) {
	full := api.Asks{On: true, Forward: api.Mask{1}, Masks: 65536}
	wantForward(t, full, true, api.Mask{1}, full, api.OK)
	wantForward(t, full, true, api.Mask{2}, full, api.ErrFull)
	wantForward(t, full, false, api.Mask{1}, full, api.ErrFull)
	last := api.Asks{On: true, Forward: api.Mask{1}, Masks: 65535, Waits: 65536}
	wantForward(t, last, false, api.Mask{1}, api.Asks{Masks: 65536, Waits: 65536}, api.OK, verbS(254))
	for _, a := range wrongAsks() {
		for _, on := range both {
			wantForward(t, a, on, api.Mask{9}, a, api.ErrArg)
			wantForward(t, a, on, a.Forward, a, api.ErrArg)
			wantForward(t, a, on, api.Mask{}, a, api.ErrArg)
		}
	}
}

// P16.3: answers of modes, in order; each mode.
func TestAnswersOfModes(t *testing.T) {
	a := api.Asks{Asked: 0, Waits: 3, Masks: 2, On: true, Forward: api.Mask{1}, GotOn: true, Got: api.Mask{2}}
	for _, c := range []struct{ told, has, waits int }{{7, 3, 2}, {5, 1, 1}, {4, 0, 0}} {
		want := a
		want.Has, want.Waits = c.has, c.waits
		wantAnswer(t, a, modeS(c.told), want, api.OK)
		a = want
	}
	wantAnswer(t, a, modeS(4), a, api.ErrState)
	for _, waits := range someCounts[1:] {
		for _, n := range rightModes {
			wantAnswer(t, api.Asks{Asked: 9, Has: 2, Waits: waits}, modeS(n+4), api.Asks{Asked: 9, Has: n, Waits: waits - 1}, api.OK)
			wantAnswer(t, api.Asks{Asked: 9, Has: 2, Waits: waits}, modeS(n), api.Asks{Asked: 9, Has: 2, Waits: waits}, api.ErrState)
		}
	}
}

// P16.3: of answers of keys the last one alone counts.
func TestAnswersOfKeys(t *testing.T) {
	m, old := api.Mask{1}, api.Mask{2}
	for _, c := range []struct {
		a    api.Asks
		verb int
		want api.Asks
	}{
		{api.Asks{On: true, Forward: m, Masks: 1}, 251, api.Asks{On: true, Forward: m, GotOn: true, Got: m}},
		{api.Asks{On: true, Forward: m, Masks: 1}, 252, api.Asks{On: true, Forward: m}},
		{api.Asks{On: true, Forward: m, Masks: 1, GotOn: true, Got: old}, 251, api.Asks{On: true, Forward: m, GotOn: true, Got: m}},
		{api.Asks{On: true, Forward: m, Masks: 1, GotOn: true, Got: old}, 252, api.Asks{On: true, Forward: m}},
		{api.Asks{Masks: 1, GotOn: true, Got: old}, 251, api.Asks{}},
		{api.Asks{Masks: 1, GotOn: true, Got: old}, 252, api.Asks{}},
		{api.Asks{On: true, Masks: 1, GotOn: true, Got: old}, 251, api.Asks{On: true, GotOn: true}},
		{api.Asks{On: true, Forward: m, Masks: 2}, 251, api.Asks{On: true, Forward: m, Masks: 1}},
		{api.Asks{On: true, Forward: m, Masks: 2}, 252, api.Asks{On: true, Forward: m, Masks: 1}},
		{api.Asks{On: true, Forward: m, Masks: 2, GotOn: true, Got: old}, 251, api.Asks{On: true, Forward: m, Masks: 1, GotOn: true, Got: old}},
		{api.Asks{On: true, Forward: m, Masks: 2, GotOn: true, Got: old}, 252, api.Asks{On: true, Forward: m, Masks: 1, GotOn: true, Got: old}},
		{api.Asks{Masks: 65536, GotOn: true, Got: old, Waits: 3, Asked: 1}, 252, api.Asks{Masks: 65535, GotOn: true, Got: old, Waits: 3, Asked: 1}},
		{api.Asks{On: true, Forward: m, Masks: 65536}, 251, api.Asks{On: true, Forward: m, Masks: 65535}},
	} {
		wantAnswer(t, c.a, verbS(c.verb), c.want, api.OK)
	}
}

// answerByRule goes by the chapter's words, of asks and a sub that may be.
func answerByRule(a api.Asks, s api.Sub) (api.Asks, api.Errno) {
	before := a
	if s.Kind == 1 && s.Mode/4%2 == 1 {
		if a.Waits == 0 {
			return before, api.ErrState
		}
		a.Waits, a.Has = a.Waits-1, s.Mode-4
		return a, api.OK
	}
	if s.Kind == 2 && s.Verb <= 252 {
		if a.Masks == 0 {
			return before, api.ErrState
		}
		a.Masks--
		switch {
		case a.Masks != 0:
		case s.Verb == 251 && a.On:
			a.GotOn, a.Got = true, a.Forward
		default:
			a.GotOn, a.Got = false, api.Mask{}
		}
		return a, api.OK
	}
	return before, api.ErrState
}

// P16.3: of all asks, and of all that may be told.
func TestAnswerByRule(t *testing.T) {
	subs := someSubs()
	for _, a := range rightAsks() {
		for _, s := range subs {
			want, e := answerByRule(a, s)
			wantAnswer(t, a, s, want, e)
		}
	}
}

// P16.3: what is no answer, and one for which nobody waits, is ErrState; what may not be is ErrArg ahead of that.
func TestAnswerErrors(t *testing.T) {
	waiting := api.Asks{Asked: 3, Waits: 2, On: true, Forward: api.Mask{1}, Masks: 2}
	idle := api.Asks{Asked: 3, On: true, Forward: api.Mask{1}}
	for _, s := range append([]api.Sub{modeS(0), modeS(3), modeS(27), doS(api.Mask{}), doS(api.Mask{1}), verbS(254)}, functionsS...) {
		wantAnswer(t, waiting, s, waiting, api.ErrState)
		wantAnswer(t, idle, s, idle, api.ErrState)
	}
	for _, s := range []api.Sub{modeS(4), modeS(7), modeS(31), verbS(251), verbS(252)} {
		wantAnswer(t, idle, s, idle, api.ErrState)
	}
	wantAnswer(t, api.Asks{Masks: 1}, modeS(7), api.Asks{Masks: 1}, api.ErrState)
	wantAnswer(t, api.Asks{Waits: 1}, verbS(251), api.Asks{Waits: 1}, api.ErrState)
	for _, s := range wrongSubs() {
		wantAnswer(t, waiting, s, waiting, api.ErrArg)
		wantAnswer(t, idle, s, idle, api.ErrArg)
	}
	for _, a := range wrongAsks() {
		for _, s := range append([]api.Sub{modeS(7), modeS(3), verbS(251), verbS(252), verbS(253), {}}, functionsS...) {
			wantAnswer(t, a, s, a, api.ErrArg)
		}
	}
}

// P16.4: what is asked for, taken: written out.
func TestTake(t *testing.T) {
	m, n := api.Mask{1}, api.Mask{31: 1}
	for _, c := range []struct {
		r    api.Rules
		s    api.Sub
		want api.Rules
		told api.Sub
	}{
		{api.Rules{}, modeS(0), api.Rules{}, modeS(4)},
		{api.Rules{Mode: 3}, modeS(0), api.Rules{}, modeS(4)},
		{api.Rules{Mode: 3}, modeS(3), api.Rules{Mode: 3}, modeS(7)},
		{api.Rules{Mode: 3, On: true, M: m, May: true}, modeS(27), api.Rules{Mode: 27, On: true, M: m, May: true}, modeS(31)},
		{api.Rules{Mode: 3, May: true}, doS(m), api.Rules{Mode: 3, May: true, On: true, M: m}, verbS(251)},
		{api.Rules{May: true}, doS(api.Mask{}), api.Rules{May: true, On: true}, verbS(251)},
		{api.Rules{May: true, On: true, M: m}, doS(n), api.Rules{May: true, On: true, M: n}, verbS(251)},
		{api.Rules{May: true, On: true, M: m}, doS(m), api.Rules{May: true, On: true, M: m}, verbS(251)},
		{api.Rules{Mode: 3}, doS(m), api.Rules{Mode: 3}, verbS(252)},
		{api.Rules{On: true, M: m}, doS(n), api.Rules{}, verbS(252)},
		{api.Rules{May: true, On: true, M: m}, verbS(254), api.Rules{May: true}, verbS(252)},
		{api.Rules{On: true, M: m, Mode: 1}, verbS(254), api.Rules{Mode: 1}, verbS(252)},
		{api.Rules{May: true}, verbS(254), api.Rules{May: true}, verbS(252)},
		{api.Rules{}, verbS(254), api.Rules{}, verbS(252)},
	} {
		wantTake(t, c.r, c.s, c.want, api.OK, c.told)
	}
}

// P16.4: by all rules, of all that may be told.
func TestTakeByRule(t *testing.T) {
	subs := someSubs()
	for _, r := range rightRules() {
		for _, s := range subs {
			switch {
			case s.Kind == 1 && s.Mode/4%2 == 0:
				wantTake(t, r, s, api.Rules{Mode: s.Mode, M: r.M, On: r.On, May: r.May}, api.OK, modeS(s.Mode+4))
			case s.Kind == 2 && s.Verb == 253 && r.May:
				wantTake(t, r, s, api.Rules{Mode: r.Mode, M: s.M, On: true, May: true}, api.OK, verbS(251))
			case s.Kind == 2 && s.Verb >= 253:
				wantTake(t, r, s, api.Rules{Mode: r.Mode, May: r.May}, api.OK, verbS(252))
			default:
				wantTake(t, r, s, r, api.ErrState)
			}
		}
	}
}

// P16.4: what asks for nothing is ErrState; what may not be is ErrArg ahead of that.
func TestTakeErrors(t *testing.T) {
	r := api.Rules{Mode: 3, On: true, M: api.Mask{1}, May: true}
	for _, s := range append([]api.Sub{modeS(4), modeS(7), modeS(31), verbS(251), verbS(252)}, functionsS...) {
		wantTake(t, r, s, r, api.ErrState)
		wantTake(t, api.Rules{}, s, api.Rules{}, api.ErrState)
	}
	for _, s := range wrongSubs() {
		wantTake(t, r, s, r, api.ErrArg)
		wantTake(t, api.Rules{}, s, api.Rules{}, api.ErrArg)
	}
	for _, r := range wrongRules() {
		for _, s := range append([]api.Sub{modeS(3), modeS(7), verbS(251), verbS(254), doS(api.Mask{1}), {}}, functionsS...) {
			wantTake(t, r, s, r, api.ErrArg)
		}
	}
}

// ends are a server, a client, and what they say under way, to the client and to the server.
type ends struct {
	a        api.Asks
	r        api.Rules
	there    []api.Sub
	back     []api.Sub
	had      []int // the client's modes, each that it was asked for, the one at the beginning ahead of them
	answered int   // how many of these the server has had answered
	asked    int   // how often it was asked for something that the server had not asked for last
	said     int
	on       bool // what was asked for last
	keys     api.Mask
	mode     int
}

func begin(may bool) ends {
	return ends{r: api.Rules{May: may}, had: []int{0}}
}

// key is what two ends are by, of how they came there what counts for what follows.
type key struct {
	a           api.Asks
	r           api.Rules
	there, back string
	had         string
	answered    int
	asked, said int
	on          bool
	keys        api.Mask
	mode        int
}

func (w ends) key() key {
	octets := func(l []api.Sub) string {
		var b []byte
		for _, s := range l {
			o, _ := subopt.Put(s)
			b = append(append(b, byte(len(o))), o...)
		}
		return string(b)
	}
	var had []byte
	for _, m := range w.had {
		had = append(had, byte(m))
	}
	return key{w.a, w.r, octets(w.there), octets(w.back), string(had), w.answered, w.asked, w.said, w.on, w.keys, w.mode}
}

// askMode is what comes of asking the server for a mode.
func (w ends) askMode(t *testing.T, n int) ends {
	t.Helper()
	a, l, e := mode.Mode(w.a, n)
	if e != api.OK {
		t.Fatalf("Mode of %v, %d: %d", w.a, n, e)
	}
	w.a, w.mode = a, n&27
	return w.tellThere(l)
}

func (w ends) askKeys(t *testing.T, on bool, m api.Mask) ends {
	t.Helper()
	a, l, e := mode.Forward(w.a, on, m)
	if e != api.OK {
		t.Fatalf("Forward of %v, %t, %v: %d", w.a, on, m, e)
	}
	w.a, w.on, w.keys = a, on, api.Mask{}
	if on {
		w.keys = m
	}
	return w.tellThere(l)
}

func (w ends) tellThere(l []api.Sub) ends {
	w.asked++
	w.said += len(l)
	w.there = append(slices.Clip(w.there), l...)
	return w
}

// moveThere moves what is first under way to the client.
func (w ends) moveThere(t *testing.T) ends {
	t.Helper()
	r, l, e := mode.Take(w.r, w.there[0])
	if e != api.OK {
		t.Fatalf("Take of %v, %v: %d", w.r, w.there[0], e)
	}
	if w.there[0].Kind == 1 {
		w.had = append(slices.Clip(w.had), r.Mode)
	}
	w.r, w.there = r, w.there[1:]
	w.said += len(l)
	w.back = append(slices.Clip(w.back), l...)
	return w
}

func (w ends) moveBack(t *testing.T) ends {
	t.Helper()
	a, e := mode.Answer(w.a, w.back[0])
	if e != api.OK {
		t.Fatalf("Answer of %v, %v: %d", w.a, w.back[0], e)
	}
	if w.back[0].Kind == 1 {
		w.answered++
	}
	w.a, w.back = a, w.back[1:]
	return w
}

// look holds two ends against what follows.
func (w ends) look(t *testing.T) {
	t.Helper()
	if mode.Check(w.a) != api.OK || mode.Sane(w.r) != api.OK {
		t.Fatalf("they may not be: %v", w)
	}
	// Answers come in the order of the modes, so that the server has the one of as many answers.
	if w.answered >= len(w.had) || w.a.Has != w.had[w.answered] {
		t.Fatalf("the server has a mode that the client did not have ahead: %v", w)
	}
	if w.said > 2*w.asked {
		t.Fatalf("%d said for %d asked for: %v", w.said, w.asked, w)
	}
	if len(w.there)+len(w.back) > 0 {
		return
	}
	if w.a.Waits != 0 || w.a.Masks != 0 {
		t.Fatalf("at rest the server waits: %v", w)
	}
	if w.a.Has != w.mode || w.r.Mode != w.mode || w.a.Asked != w.mode {
		t.Fatalf("at rest a mode is not the one that was asked for last, %d: %v", w.mode, w)
	}
	if w.a.GotOn != w.r.On || w.a.Got != w.r.M {
		t.Fatalf("at rest the keys are not the same: %v", w)
	}
	if w.r.On != (w.on && w.r.May) || w.r.May && w.r.M != w.keys {
		t.Fatalf("at rest the keys are not those that were asked for last: %v", w)
	}
}

// walkAll goes to all that two ends can come to, with as many asks.
func walkAll(t *testing.T, may bool, asks int) int {
	t.Helper()
	first := begin(may)
	seen := map[key]bool{first.key(): true}
	work := []ends{first}
	for len(work) > 0 {
		w := work[0]
		work = work[1:]
		w.look(t)
		var next []ends
		if w.asked < asks {
			for _, n := range []int{0, 1, 7} {
				next = append(next, w.askMode(t, n))
			}
			for _, m := range []api.Mask{{}, {128}} {
				next = append(next, w.askKeys(t, true, m), w.askKeys(t, false, m))
			}
		}
		if len(w.there) > 0 {
			next = append(next, w.moveThere(t))
		}
		if len(w.back) > 0 {
			next = append(next, w.moveBack(t))
		}
		for _, n := range next {
			if k := n.key(); !seen[k] {
				seen[k] = true
				work = append(work, n)
			}
		}
	}
	return len(seen)
}

// P16.5: all that two ends can come to with five asks.
func TestTwoEndsAtAllTimes(t *testing.T) {
	for _, may := range both {
		if n := walkAll(t, may, 5); n < 10000 {
			t.Errorf("may %t: they come to no more than %d", may, n)
		}
	}
}

// picks are numbers that look like chance, and are the same each time.
func picks(seed uint32) func(below int) int {
	return func(below int) int {
		seed = seed*1664525 + 1013904223
		return int(seed>>8) % below
	}
}

// P16.5: long rows of asks, with much under way at once, or little.
func TestTwoEndsInLongRows(t *testing.T) {
	for seed := range 200 {
		pick := picks(uint32(seed))
		w := begin(seed%2 == 0)
		for range 400 {
			switch n := pick(4 + seed%7); {
			case n == 0:
				w = w.askMode(t, pick(32))
			case n == 1:
				w = w.askKeys(t, pick(3) > 0, someMasks[pick(len(someMasks))])
			case n%2 == 0 && len(w.there) > 0:
				w = w.moveThere(t)
			case len(w.back) > 0:
				w = w.moveBack(t)
			}
			w.look(t)
		}
		for len(w.there)+len(w.back) > 0 {
			if len(w.there) > 0 && (pick(2) == 0 || len(w.back) == 0) {
				w = w.moveThere(t)
			} else {
				w = w.moveBack(t)
			}
			w.look(t)
		}
	}
}

// P16.5: as many as may be waited for are under way at once, and all are answered.
func TestTwoEndsWithMaxWaits(t *testing.T) {
	a := api.Asks{}
	var there []api.Sub
	for i := range 65536 {
		b, l, e := mode.Mode(a, 1+i%2)
		c, m, f := mode.Forward(b, i%2 == 0, api.Mask{1})
		if e != api.OK || f != api.OK || c.Waits != i+1 || c.Masks != i+1 {
			t.Fatalf("ask %d: %d, %d, %v", i, e, f, c)
		}
		a, there = c, append(append(there, l...), m...)
	}
	wantMode(t, a, 8, a, api.ErrFull)
	wantForward(t, a, true, api.Mask{2}, a, api.ErrFull)
	r := api.Rules{May: true}
	for _, s := range there {
		var l []api.Sub
		var e api.Errno
		if r, l, e = mode.Take(r, s); e != api.OK || len(l) != 1 {
			t.Fatalf("Take of %v: %d", s, e)
		}
		if a, e = mode.Answer(a, l[0]); e != api.OK {
			t.Fatalf("Answer of %v: %d", l[0], e)
		}
	}
	if a != (api.Asks{Asked: 2, Has: 2}) || r != (api.Rules{Mode: 2, May: true}) {
		t.Errorf("at rest: %v, %v", a, r)
	}
}
