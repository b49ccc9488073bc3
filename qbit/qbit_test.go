package qbit_test

import (
	"math"
	"slices"
	"testing"

	"linnet/api"
	"linnet/qbit"
)

const (
	no = iota
	yes
	wantNo
	wantNoYes
	wantYes
	wantYesNo
)

const (
	sayNothing = iota
	sayYes
	sayNo
)

// gotCell is a cell of the chapter's first table, written out for what may be and for what may not.
type gotCell struct {
	q        int
	yes, may bool
	to, say  int
	e        api.Errno
}

var gotCells = []gotCell{
	{no, true, true, yes, sayYes, 0},
	{no, true, false, no, sayNo, 0},
	{no, false, true, no, sayNothing, 0},
	{no, false, false, no, sayNothing, 0},
	{yes, true, true, yes, sayNothing, 0},
	{yes, true, false, yes, sayNothing, 0},
	{yes, false, true, no, sayNo, 0},
	{yes, false, false, no, sayNo, 0},
	{wantNo, true, true, no, sayNothing, 5},
	{wantNo, true, false, no, sayNothing, 5},
	{wantNo, false, true, no, sayNothing, 0},
	{wantNo, false, false, no, sayNothing, 0},
	{wantNoYes, true, true, yes, sayNothing, 5},
	{wantNoYes, true, false, yes, sayNothing, 5},
	{wantNoYes, false, true, wantYes, sayYes, 0},
	{wantNoYes, false, false, wantYes, sayYes, 0},
	{wantYes, true, true, yes, sayNothing, 0},
	{wantYes, true, false, yes, sayNothing, 0},
	{wantYes, false, true, no, sayNothing, 0},
	{wantYes, false, false, no, sayNothing, 0},
	{wantYesNo, true, true, wantNo, sayNo, 0},
	{wantYesNo, true, false, wantNo, sayNo, 0},
	{wantYesNo, false, true, no, sayNothing, 0},
	{wantYesNo, false, false, no, sayNothing, 0},
}

// askCell is a cell of the chapter's second table.
type askCell struct {
	q       int
	on      bool
	to, say int
	e       api.Errno
}

var askCells = []askCell{
	{no, true, wantYes, sayYes, 0},
	{no, false, no, sayNothing, 5},
	{yes, true, yes, sayNothing, 5},
	{yes, false, wantNo, sayNo, 0},
	{wantNo, true, wantNoYes, sayNothing, 0},
	{wantNo, false, wantNo, sayNothing, 5},
	{wantNoYes, true, wantNoYes, sayNothing, 5},
	{wantNoYes, false, wantNo, sayNothing, 0},
	{wantYes, true, wantYes, sayNothing, 5},
	{wantYes, false, wantYesNo, sayNothing, 0},
	{wantYesNo, true, wantYes, sayNothing, 0},
	{wantYesNo, false, wantYesNo, sayNothing, 5},
}

// wrongPlaces are numbers that are no place, those among them that would be one if they were cut to fewer bits.
var wrongPlaces = []int{
	-1, -2, -5, -6, -7, 6, 7, 8, 11, 12, 255, 256, 257, 260, -255, -256, -251,
	1 << 16, 1<<16 + 1, 1 << 31, -1 << 31, 1 << 32, 1<<32 + 1, 1<<32 + 4, -1<<32 + 1,
	math.MaxInt, math.MaxInt - 1, math.MinInt, math.MinInt + 1, math.MinInt + 4,
}

var both = []bool{false, true}

func wantGot(t *testing.T, c gotCell) {
	t.Helper()
	if to, say, e := qbit.Got(c.q, c.yes, c.may); to != c.to || say != c.say || e != c.e {
		t.Errorf("Got of %d, yes %v, may %v: %d, %d, %d; want %d, %d, %d", c.q, c.yes, c.may, to, say, e, c.to, c.say, c.e)
	}
}

func wantAsk(t *testing.T, c askCell) {
	t.Helper()
	if to, say, e := qbit.Ask(c.q, c.on); to != c.to || say != c.say || e != c.e {
		t.Errorf("Ask of %d, on %v: %d, %d, %d; want %d, %d, %d", c.q, c.on, to, say, e, c.to, c.say, c.e)
	}
}

// P5.1 and P5.2: the chapter's numbers are api's.
func TestNumbers(t *testing.T) {
	got := []int{api.No, api.Yes, api.WantNo, api.WantNoYes, api.WantYes, api.WantYesNo, api.SayNothing, api.SayYes, api.SayNo}
	if !slices.Equal(got, []int{0, 1, 2, 3, 4, 5, 0, 1, 2}) {
		t.Errorf("the numbers: %v", got)
	}
	if api.OK != 0 || api.ErrArg != 1 || api.ErrState != 5 {
		t.Errorf("the errors: %d, %d, %d", api.OK, api.ErrArg, api.ErrState)
	}
}

// P5.1, Check and Wanted: each place.
func TestPlaces(t *testing.T) {
	wanted := []bool{no: false, yes: true, wantNo: false, wantNoYes: true, wantYes: true, wantYesNo: false}
	for q, w := range wanted {
		if e := qbit.Check(q); e != api.OK {
			t.Errorf("Check of %d: %d", q, e)
		}
		if qbit.Wanted(q) != w {
			t.Errorf("Wanted of %d: %v", q, !w)
		}
	}
}

// P5.2, Got: each cell of the first table.
func TestGot(t *testing.T) {
	if len(gotCells) != 24 {
		t.Fatalf("%d cells", len(gotCells))
	}
	for _, c := range gotCells {
		wantGot(t, c)
	}
}

// P5.2, Ask: each cell of the second table.
func TestAsk(t *testing.T) {
	if len(askCells) != 12 {
		t.Fatalf("%d cells", len(askCells))
	}
	for _, c := range askCells {
		wantAsk(t, c)
	}
}

// P5.1 and P5.2: a number that is no place comes back as it is.
func TestWrongPlaces(t *testing.T) {
	for n := range 300 {
		wantWrong(t, -1-n)
		wantWrong(t, 6+n)
	}
	for _, q := range wrongPlaces {
		wantWrong(t, q)
	}
}

func wantWrong(t *testing.T, q int) {
	t.Helper()
	if e := qbit.Check(q); e != api.ErrArg {
		t.Errorf("Check of %d: %d", q, e)
	}
	if qbit.Wanted(q) {
		t.Errorf("%d is wanted", q)
	}
	for _, x := range both {
		wantAsk(t, askCell{q, x, q, sayNothing, 1})
		for _, may := range both {
			wantGot(t, gotCell{q, x, may, q, sayNothing, 1})
		}
	}
}

// P5.2: the chapter's first example, and its third.
func TestExamples(t *testing.T) {
	wantAsk(t, askCell{api.No, true, api.WantYes, api.SayYes, api.OK})
	q, _, _ := qbit.Ask(api.No, true)
	for _, may := range both {
		wantGot(t, gotCell{q, true, may, api.Yes, api.SayNothing, api.OK})
	}
	wantAsk(t, askCell{q, false, api.WantYesNo, api.SayNothing, api.OK})
	q, _, _ = qbit.Ask(q, false)
	for _, may := range both {
		wantGot(t, gotCell{q, true, may, api.WantNo, api.SayNo, api.OK})
	}
}

// P5.2: the chapter's second example.
func TestMayNotBe(t *testing.T) {
	wantGot(t, gotCell{api.No, true, false, api.No, api.SayNo, api.OK})
}

// P5.2: from a place that may be, no call leads to one that may not, nor says what there is none of.
func TestStaysAPlace(t *testing.T) {
	look := func(q, to, say int) {
		if qbit.Check(to) != api.OK || say < sayNothing || say > sayNo {
			t.Errorf("from %d: %d, %d", q, to, say)
		}
	}
	for q := no; q <= wantYesNo; q++ {
		for _, x := range both {
			to, say, _ := qbit.Ask(q, x)
			look(q, to, say)
			for _, may := range both {
				to, say, _ = qbit.Got(q, x, may)
				look(q, to, say)
			}
		}
	}
}

// P5.3: what was asked for is wanted then, and asked again is an error that changes nothing; it may be asked back.
func TestAskedAgain(t *testing.T) {
	for q := no; q <= wantYesNo; q++ {
		for _, on := range both {
			to, _, e := qbit.Ask(q, on)
			if qbit.Wanted(to) != on {
				t.Errorf("Ask of %d, on %v: %d", q, on, to)
			}
			if refused := qbit.Wanted(q) == on; (e == api.ErrState) != refused || (e == api.OK) == refused {
				t.Errorf("Ask of %d, on %v: error %d", q, on, e)
			}
			wantAsk(t, askCell{to, on, to, sayNothing, 5})
			back, _, e := qbit.Ask(to, !on)
			if qbit.Wanted(back) == on || e != api.OK {
				t.Errorf("Ask of %d, on %v, and back: %d, %d", q, on, back, e)
			}
		}
	}
}

// P5.3: while an answer is under way, asked to and fro, nothing more is said, and it ends where it would have without.
func TestAskedToAndFro(t *testing.T) {
	for q := wantNo; q <= wantYesNo; q++ {
		on := !qbit.Wanted(q)
		to, say, e := qbit.Ask(q, on)
		back, said, f := qbit.Ask(to, !on)
		if back != q || say != sayNothing || said != sayNothing || e != api.OK || f != api.OK {
			t.Errorf("from %d: %d, %d; said %d, %d; errors %d, %d", q, to, back, say, said, e, f)
		}
	}
}
