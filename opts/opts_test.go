package opts_test

import (
	"math"
	"slices"
	"testing"

	"linnet/api"
	"linnet/item"
	"linnet/opts"
)

// The chapter's numbers, written out.
const (
	no = iota
	yes
	wantNo
	wantNoYes
	wantYes
	wantYesNo
	places
)

const (
	will = 251 + iota
	wont
	do
	dont
)

const nothing = 0

var (
	kept  = [4]int{0, 1, 3, 34}
	verbs = []int{will, wont, do, dont}
	both  = []bool{false, true}
	all   = [4]bool{true, true, true, true}
	none  = [4]bool{}
)

// wide are numbers that are far from all that may be, those among them that would be near if they were cut to fewer bits.
var wide = []int{
	-2, -3, -4, -5, -34, -251, -253, -255, -256, -257, -1000,
	1000, 1 << 16, 1<<16 + 1, 1<<16 + 34, 1<<16 + 253, 1<<31 - 1, 1 << 31, 1<<31 + 1, -1 << 31, -1<<31 + 1,
	1 << 32, 1<<32 + 1, 1<<32 + 3, 1<<32 + 34, 1<<32 + 251, 1<<32 + 253, -1<<32 + 1, -1<<32 + 253,
	math.MaxInt, math.MaxInt - 1, math.MinInt, math.MinInt + 1, math.MinInt + 3, math.MinInt + 253,
}

func say(verb, code int) []api.Item {
	if verb == nothing {
		return nil
	}
	return []api.Item{{Kind: api.OptI, A: verb, B: code}}
}

// told is what a call answers.
type told struct {
	o api.Opts
	l []api.Item
	e api.Errno
}

func answer(o api.Opts, l []api.Item, e api.Errno) told {
	return told{o, l, e}
}

func (a told) is(b told) bool {
	return a.o == b.o && item.Same(a.l, b.l) && a.e == b.e
}

// wantRefused looks that o comes back as it is, nothing is told, and that that is the error.
func wantRefused(t *testing.T, what string, o api.Opts, e api.Errno, got told) {
	t.Helper()
	if want := (told{o: o, e: e}); !got.is(want) {
		t.Errorf("%s: %v; want %v", what, got, want)
	}
}

func row(him bool, o *api.Opts) (*[4]int, *[4]bool) {
	if him {
		return &o.Him, &o.MayHim
	}
	return &o.Us, &o.MayUs
}

// with is o, with an option there that may be, or may not.
func with(o api.Opts, him bool, place, q int, may bool) api.Opts {
	at, mays := row(him, &o)
	at[place], mays[place] = q, may
	return o
}

// grounds are options that may be, with different ones at different places; what is looked at is put in among them.
func grounds() []api.Opts {
	return []api.Opts{
		opts.New(none, none),
		opts.New(all, all),
		{Us: [4]int{yes, yes, yes, yes}, Him: [4]int{yes, yes, yes, yes}, MayUs: all, MayHim: all},
		{Us: [4]int{yes, wantNo, wantNoYes, wantYes}, Him: [4]int{wantYesNo, wantYes, no, yes}, MayUs: all, MayHim: all},
		{Us: [4]int{no, wantYesNo, no, wantNo}, Him: [4]int{wantNoYes, no, wantYes, no}, MayUs: [4]bool{false, true, true, true}, MayHim: [4]bool{true, false, true, false}},
	}
}

// broken are options that may not be: one of the eight parts is no place, or is not No where it may not be.
func broken() []api.Opts {
	var l []api.Opts
	for _, him := range both {
		for place := range 4 {
			for _, o := range grounds() {
				for q := yes; q < places; q++ {
					l = append(l, with(o, him, place, q, false))
				}
				for _, q := range append([]int{-1, 6, 7, 255, 256}, wide...) {
					l = append(l, with(o, him, place, q, true), with(o, him, place, q, false))
				}
			}
		}
	}
	return l
}

// mays are the sixteen ways in which four options may be, or may not.
func mays() [][4]bool {
	var l [][4]bool
	for n := range 16 {
		l = append(l, [4]bool{n&1 != 0, n&2 != 0, n&4 != 0, n&8 != 0})
	}
	return l
}

// P6.1: the chapter's numbers are api's.
func TestNumbers(t *testing.T) {
	got := []int{
		api.No, api.Yes, api.WantNo, api.WantNoYes, api.WantYes, api.WantYesNo, api.Will, api.Wont, api.Do, api.Dont,
		api.BinaryO, api.EchoO, api.AheadO, api.LineO, api.Options, api.TimingMark, api.LineCode, api.OptI,
	}
	want := []int{0, 1, 2, 3, 4, 5, 251, 252, 253, 254, 0, 1, 2, 3, 4, 6, 34, 3}
	if !slices.Equal(got, want) {
		t.Errorf("the numbers: %v", got)
	}
	if api.OK != 0 || api.ErrArg != 1 || api.ErrState != 5 {
		t.Errorf("the errors: %d, %d, %d", api.OK, api.ErrArg, api.ErrState)
	}
}

// P6.1, New: all No, and may be as it was said.
func TestNew(t *testing.T) {
	for _, us := range mays() {
		for _, him := range mays() {
			o := opts.New(us, him)
			if o != (api.Opts{MayUs: us, MayHim: him}) || opts.Check(o) != api.OK {
				t.Errorf("New of %v, %v: %v, %d", us, him, o, opts.Check(o))
			}
		}
	}
}

// P6.1, Check: each place of each part where it may be, and No where it may not.
func TestCheck(t *testing.T) {
	for _, o := range grounds() {
		for _, him := range both {
			for place := range 4 {
				for q := no; q < places; q++ {
					x := with(o, him, place, q, true)
					if e := opts.Check(x); e != api.OK {
						t.Errorf("Check of %v: %d", x, e)
					}
				}
				if x := with(o, him, place, no, false); opts.Check(x) != api.OK {
					t.Errorf("Check of %v: %d", x, opts.Check(x))
				}
			}
		}
	}
}

// P6.1, Check: what may not be.
func TestCheckBroken(t *testing.T) {
	for _, o := range broken() {
		if e := opts.Check(o); e != api.ErrArg {
			t.Errorf("Check of %v: %d", o, e)
		}
	}
}

// P6.1, Place: each code that is kept, its neighbours, and all others.
func TestPlace(t *testing.T) {
	codes := slices.Clone(wide)
	for n := -300; n < 600; n++ {
		codes = append(codes, n)
	}
	for _, code := range codes {
		want := slices.Index(kept[:], code)
		place, ok := opts.Place(code)
		if ok != (want >= 0) || place != max(want, 0) {
			t.Errorf("Place of %d: %d, %v", code, place, ok)
		}
	}
}

// P6.1, Same: as soon as one of the sixteen parts is another one they are not, whether they may be or not.
func TestSame(t *testing.T) {
	for _, o := range append(grounds(), broken()[:40]...) {
		if !opts.Same(o, o) {
			t.Errorf("%v is not the same as itself", o)
		}
		for _, him := range both {
			for place := range 4 {
				at, may := row(him, &o)
				other := with(o, him, place, at[place]+1, may[place])
				turned := with(o, him, place, at[place], !may[place])
				if opts.Same(o, other) || opts.Same(other, o) || opts.Same(o, turned) || opts.Same(turned, o) {
					t.Errorf("%v is the same as another one", o)
				}
			}
		}
	}
	a, b := opts.New(all, none), opts.New(none, all)
	if opts.Same(a, b) {
		t.Error("Us and Him are told apart by nothing")
	}
}

// gotCell is what comes of a verb of an option that is kept, by where it is: of Will and Wont of Him, of Do and Dont of Us.
type gotCell struct {
	verb, q int
	may     bool
	to, say int
	e       api.Errno
}

var gotCells = []gotCell{
	{will, no, true, yes, do, 0},
	{will, no, false, no, dont, 0},
	{will, yes, true, yes, nothing, 0},
	{will, wantNo, true, no, nothing, 5},
	{will, wantNoYes, true, yes, nothing, 5},
	{will, wantYes, true, yes, nothing, 0},
	{will, wantYesNo, true, wantNo, dont, 0},
	{wont, no, true, no, nothing, 0},
	{wont, no, false, no, nothing, 0},
	{wont, yes, true, no, dont, 0},
	{wont, wantNo, true, no, nothing, 0},
	{wont, wantNoYes, true, wantYes, do, 0},
	{wont, wantYes, true, no, nothing, 0},
	{wont, wantYesNo, true, no, nothing, 0},
	{do, no, true, yes, will, 0},
	{do, no, false, no, wont, 0},
	{do, yes, true, yes, nothing, 0},
	{do, wantNo, true, no, nothing, 5},
	{do, wantNoYes, true, yes, nothing, 5},
	{do, wantYes, true, yes, nothing, 0},
	{do, wantYesNo, true, wantNo, wont, 0},
	{dont, no, true, no, nothing, 0},
	{dont, no, false, no, nothing, 0},
	{dont, yes, true, no, wont, 0},
	{dont, wantNo, true, no, nothing, 0},
	{dont, wantNoYes, true, wantYes, will, 0},
	{dont, wantYes, true, no, nothing, 0},
	{dont, wantYesNo, true, no, nothing, 0},
}

// P6.2: each verb of each code that is kept, at each place; no other part changes.
func TestGot(t *testing.T) {
	if len(gotCells) != 4*(places+1) {
		t.Fatalf("%d cells", len(gotCells))
	}
	for _, c := range gotCells {
		him := c.verb == will || c.verb == wont
		for place, code := range kept {
			for _, ground := range grounds() {
				o := with(ground, him, place, c.q, c.may)
				want := told{with(ground, him, place, c.to, c.may), say(c.say, code), c.e}
				if got := answer(opts.Got(o, c.verb, code)); !got.is(want) {
					t.Errorf("%d %d to %v: %v; want %v", c.verb, code, o, got, want)
				}
			}
		}
	}
}

// P6.2: where it may not be, all the six places but No are ones that the options may not be at.
func TestGotWhereItMayNotBe(t *testing.T) {
	for _, verb := range verbs {
		for _, him := range both {
			for place, code := range kept {
				for q := yes; q < places; q++ {
					o := with(opts.New(all, all), him, place, q, false)
					wantRefused(t, "Got", o, api.ErrArg, answer(opts.Got(o, verb, code)))
				}
			}
		}
	}
}

// P6.2: all codes that are not kept, the kept ones' neighbours, TimingMark, 99 and 255 among them.
func TestGotNotKept(t *testing.T) {
	refusal := map[int]int{will: dont, wont: nothing, do: wont, dont: nothing}
	mark := map[int]int{will: nothing, wont: nothing, do: will, dont: nothing}
	count := 0
	for code := range 256 {
		if slices.Contains(kept[:], code) {
			continue
		}
		count++
		for _, verb := range verbs {
			said := refusal[verb]
			if code == 6 {
				said = mark[verb]
			}
			for _, o := range grounds() {
				want := told{o, say(said, code), api.OK}
				if got := answer(opts.Got(o, verb, code)); !got.is(want) {
					t.Errorf("%d %d to %v: %v; want %v", verb, code, o, got, want)
				}
			}
		}
	}
	if count != 252 {
		t.Errorf("%d codes", count)
	}
}

// P6.2: the chapter's three examples.
func TestExamples(t *testing.T) {
	for _, o := range grounds() {
		may := with(o, false, api.LineO, no, true)
		wants := []struct {
			o, to      api.Opts
			verb, code int
			said       []api.Item
		}{
			{may, with(may, false, api.LineO, yes, true), 253, 34, say(251, 34)},
			{o, o, 251, 99, say(254, 99)},
			{o, o, 253, 6, say(251, 6)},
		}
		for _, c := range wants {
			want := told{c.to, c.said, api.OK}
			if got := answer(opts.Got(c.o, c.verb, c.code)); !got.is(want) {
				t.Errorf("%d %d to %v: %v; want %v", c.verb, c.code, c.o, got, want)
			}
		}
	}
}

func wrongVerbs() []int {
	return append([]int{250, 255, 0, 1, -1, 249, 256, 248, 507, 509}, wide...)
}

func wrongCodes() []int {
	return append([]int{-1, 256, 257, 290, 511}, wide...)
}

// P6.2: verbs and codes that are none, alone and together.
func TestGotWrong(t *testing.T) {
	for _, o := range grounds() {
		for _, verb := range wrongVerbs() {
			for _, code := range []int{0, 1, 2, 3, 6, 34, 99, 255, -1, 256} {
				wantRefused(t, "Got", o, api.ErrArg, answer(opts.Got(o, verb, code)))
			}
		}
		for _, code := range wrongCodes() {
			for _, verb := range verbs {
				wantRefused(t, "Got", o, api.ErrArg, answer(opts.Got(o, verb, code)))
			}
		}
	}
}

// P6.2: of options that may not be nothing comes, whichever of them is spoken of, even if it is none that is kept.
func TestGotBroken(t *testing.T) {
	for _, o := range broken() {
		for _, verb := range append([]int{250, 255}, verbs...) {
			for _, code := range []int{0, 1, 3, 34, 2, 6, 99, -1, 256} {
				wantRefused(t, "Got", o, api.ErrArg, answer(opts.Got(o, verb, code)))
			}
		}
	}
}

// askCell is what comes of asking, where it may be; what is said is yes (Do of Him, Will of Us), no, or nothing.
type askCell struct {
	q, to   int
	on      bool
	him, us int
	e       api.Errno
}

var askCells = []askCell{
	{no, wantYes, true, do, will, 0},
	{yes, yes, true, nothing, nothing, 5},
	{wantNo, wantNoYes, true, nothing, nothing, 0},
	{wantNoYes, wantNoYes, true, nothing, nothing, 5},
	{wantYes, wantYes, true, nothing, nothing, 5},
	{wantYesNo, wantYes, true, nothing, nothing, 0},
	{no, no, false, nothing, nothing, 5},
	{yes, wantNo, false, dont, wont, 0},
	{wantNo, wantNo, false, nothing, nothing, 5},
	{wantNoYes, wantNo, false, nothing, nothing, 0},
	{wantYes, wantYesNo, false, nothing, nothing, 0},
	{wantYesNo, wantYesNo, false, nothing, nothing, 5},
}

func (c askCell) said(him bool) int {
	if him {
		return c.him
	}
	return c.us
}

// P6.3: each option of each side, on and off, at each place; no other part changes.
func TestAsk(t *testing.T) {
	if len(askCells) != 2*places {
		t.Fatalf("%d cells", len(askCells))
	}
	for _, c := range askCells {
		for _, him := range both {
			for place, code := range kept {
				for _, ground := range grounds() {
					o := with(ground, him, place, c.q, true)
					want := told{with(ground, him, place, c.to, true), say(c.said(him), code), c.e}
					if got := answer(opts.Ask(o, him, place, c.on)); !got.is(want) {
						t.Errorf("Ask of %v, %v, %d, %v: %v; want %v", o, him, place, c.on, got, want)
					}
				}
			}
		}
	}
}

// P6.3: what may not be is not asked on, whether the same option of the other side may be or not; off it is already.
func TestAskWhatMayNotBe(t *testing.T) {
	for _, ground := range grounds() {
		for _, him := range both {
			for place := range 4 {
				for _, other := range both {
					o := with(with(ground, !him, place, no, other), him, place, no, false)
					for _, on := range both {
						wantRefused(t, "Ask", o, api.ErrState, answer(opts.Ask(o, him, place, on)))
					}
				}
			}
		}
	}
}

// P6.3: places that are none, asked on and off, where all may be, and where nothing may (ErrArg is named ahead of ErrState).
func TestAskWrong(t *testing.T) {
	for _, place := range append([]int{-1, 4, 5, 34, 255, 256}, wide...) {
		for _, o := range grounds() {
			for _, him := range both {
				for _, on := range both {
					wantRefused(t, "Ask", o, api.ErrArg, answer(opts.Ask(o, him, place, on)))
				}
			}
		}
	}
}

// P6.3: of options that may not be nothing is asked, whichever it is, even where it may not be, or is wanted already.
func TestAskBroken(t *testing.T) {
	for _, o := range broken() {
		for _, him := range both {
			for place := -1; place <= 4; place++ {
				for _, on := range both {
					wantRefused(t, "Ask", o, api.ErrArg, answer(opts.Ask(o, him, place, on)))
				}
			}
		}
	}
}

// P6.2 and P6.3: what is answered is the caller's: changed, it changes no later answer, and options that were handed in stay.
func TestAnswersAreNew(t *testing.T) {
	o := opts.New(all, all)
	for range 2 {
		_, l, _ := opts.Got(o, will, 34)
		_, m, _ := opts.Ask(o, false, api.EchoO, true)
		_, n, _ := opts.Got(o, do, 99)
		for _, said := range []struct{ got, want []api.Item }{{l, say(do, 34)}, {m, say(will, 1)}, {n, say(wont, 99)}} {
			if !item.Same(said.got, said.want) {
				t.Errorf("%v; want %v", said.got, said.want)
			}
			said.got[0] = api.Item{}
		}
	}
	if o != opts.New(all, all) {
		t.Errorf("what was handed in: %v", o)
	}
}
