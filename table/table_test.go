package table_test

import (
	"math"
	"slices"
	"testing"

	"linnet/api"
	"linnet/table"
)

// standardCells are all cells of the standard table, by their numbers, as the chapter writes them out.
var standardCells = [31]api.Cell{
	0:  {},
	1:  {},
	2:  {},
	3:  {Level: 2, V: 3},
	4:  {Level: 2, V: 15},
	5:  {Level: 2, V: 20},
	6:  {},
	7:  {Level: 2, V: 28},
	8:  {Level: 2, V: 4},
	9:  {Level: 2, V: 26},
	10: {Level: 2, V: 127},
	11: {Level: 2, V: 21},
	12: {Level: 2, V: 23},
	13: {Level: 2, V: 18},
	14: {Level: 2, V: 22},
	15: {Level: 2, V: 17},
	16: {Level: 2, V: 19},
	17: {},
	18: {},
	19: {Level: 2, V: 2},
	20: {Level: 2, V: 6},
	21: {Level: 2, V: 25},
	22: {Level: 2, V: 24},
	23: {Level: 2, V: 1},
	24: {Level: 2, V: 5},
	25: {Level: 2, V: 9},
	26: {Level: 2, V: 16},
	27: {Level: 2, V: 8},
	28: {Level: 2, V: 14},
	29: {Level: 2, V: 29},
	30: {Level: 2, V: 11},
}

// standardMeanings are the keys that mean something in the standard table.
var standardMeanings = map[byte]int{
	1: 23, 2: 19, 3: 3, 4: 8, 5: 24, 6: 20, 8: 27, 9: 25, 11: 30, 13: 31, 14: 28, 15: 4, 16: 26, 17: 15, 18: 13,
	19: 16, 20: 5, 21: 11, 22: 14, 23: 12, 24: 22, 25: 21, 26: 9, 28: 7, 29: 29, 127: 10,
}

// noFunctions are numbers that are no function, those among them that would be one if they were cut to fewer bits.
var noFunctions = []int{
	0, -1, -2, -3, -10, -30, -31, -32, 31, 32, 33, 34, 62, 63, 64, 65, 127, 128, 129, 255, 256, 257, 259, 286, -255, -256, -253,
	1 << 16, 1<<16 + 3, 1<<31 - 1, 1 << 31, 1<<31 + 3, -1 << 31, -1<<31 + 3, 1 << 32, 1<<32 + 3, 1<<32 + 31, -1 << 32, -1<<32 + 3, -1<<32 + 31,
	math.MaxInt, math.MaxInt - 1, math.MinInt, math.MinInt + 1, math.MinInt + 3, math.MinInt + 31,
}

// noLevels are numbers of which no cell may be.
var noLevels = []int{
	-1, 3, 4, 5, 6, -2, -3, -128, 127, 128, 130, 255, 256, 257, 258, -254, -255, -256, 1 << 16, 1<<16 + 1, 1 << 31, -1 << 31,
	1 << 32, 1<<32 + 1, 1<<32 + 2, -1 << 32, -1<<32 + 2, math.MaxInt, math.MinInt, math.MinInt + 1, math.MinInt + 2,
}

// someKeys are keys at which something ends, or begins.
var someKeys = []byte{0, 1, 3, 12, 13, 14, 97, 127, 128, 254, 255}

// picks are numbers that look like chance, and are the same each time.
func picks(seed uint32) func(below int) int {
	return func(below int) int {
		seed = seed*1664525 + 1013904223
		return int(seed>>8) % below
	}
}

// rightCells are cells that may be, of some keys.
func rightCells() []api.Cell {
	l := []api.Cell{{}}
	for _, key := range someKeys {
		l = append(l, api.Cell{Level: api.CantChange, V: key}, api.Cell{Level: api.Value, V: key})
	}
	return l
}

// wrongCells may not be, for their level, or for a key that is kept by none.
func wrongCells() []api.Cell {
	var l []api.Cell
	for _, level := range noLevels {
		for _, key := range someKeys {
			l = append(l, api.Cell{Level: level, V: key})
		}
	}
	for key := 1; key < 256; key++ {
		l = append(l, api.Cell{V: byte(key)})
	}
	return l
}

// changed is a table whose cells are others, whether it may be or not.
func changed(t api.Table, cells map[int]api.Cell) api.Table {
	for f, c := range cells {
		t[f] = c
	}
	return t
}

// of is the table of zeros, but for these cells.
func of(cells map[int]api.Cell) api.Table {
	return changed(api.Table{}, cells)
}

// filled is the table all of whose functions have one cell.
func filled(c api.Cell) api.Table {
	var t api.Table
	for f := 1; f <= 30; f++ {
		t[f] = c
	}
	return t
}

// chance is a table that may be, of few keys, or of many.
func chance(seed int) api.Table {
	var t api.Table
	pick := picks(uint32(seed))
	below := []int{3, 16, 40, 256}[seed%4]
	for f := 1; f <= 30; f++ {
		if level := pick(3); level > 0 {
			t[f] = api.Cell{Level: level, V: byte(pick(below))}
		}
	}
	return t
}

// rightTables are tables that may be.
func rightTables() []api.Table {
	s := table.Standard()
	l := []api.Table{
		{}, s,
		changed(s, map[int]api.Cell{api.ElF: {Level: 2, V: 127}}),
		changed(s, map[int]api.Cell{api.ElF: {Level: 2, V: 127}, api.EcF: {}}),
		changed(s, map[int]api.Cell{api.EcF: {Level: 1, V: 13}}),
		changed(s, map[int]api.Cell{1: {Level: 2, V: 0}, 30: {Level: 1, V: 255}}),
		changed(s, map[int]api.Cell{1: {Level: 1, V: 255}, 30: {Level: 2, V: 0}}),
		changed(s, map[int]api.Cell{5: {Level: 1, V: 97}, 17: {Level: 2, V: 97}, 30: {Level: 1, V: 97}}),
	}
	for _, c := range rightCells() {
		l = append(l, filled(c))
		for _, f := range []int{1, 2, 17, 30} {
			l = append(l, of(map[int]api.Cell{f: c}), changed(s, map[int]api.Cell{f: c}))
		}
	}
	for seed := range 60 {
		l = append(l, chance(seed))
	}
	return l
}

// wrongTables are tables that may not be, each for one cell, or for all.
func wrongTables() []api.Table {
	s := table.Standard()
	var l []api.Table
	for _, c := range wrongCells() {
		l = append(l, api.Table{0: c}, filled(c))
		for _, f := range []int{1, 2, 13, 29, 30} {
			l = append(l, of(map[int]api.Cell{f: c}), changed(s, map[int]api.Cell{f: c}))
		}
	}
	for _, c := range rightCells()[1:] {
		l = append(l, api.Table{0: c}, changed(s, map[int]api.Cell{0: c}))
	}
	return l
}

// meaningByRule goes from the highest function down: the last one that is found is the lowest.
func meaningByRule(t api.Table, key byte) int {
	if key == 13 {
		return 31
	}
	means := 0
	for f := 30; f >= 1; f-- {
		if t[f].V == key && t[f].Level != 0 {
			means = f
		}
	}
	return means
}

// wantMeanings looks at the meaning of each key, and at the key of each function.
func wantMeanings(t *testing.T, x api.Table) {
	t.Helper()
	keys := map[int]byte{}
	for n := range 256 {
		want := meaningByRule(x, byte(n))
		if got := table.Meaning(x, byte(n)); got != want {
			t.Fatalf("Meaning of %d in %v: %d; want %d", n, x, got, want)
		}
		if want != 0 {
			keys[want] = byte(n)
		}
	}
	for f := -3; f <= 40; f++ {
		want, means := keys[f]
		if key, ok := table.Key(x, f); key != want || ok != means {
			t.Fatalf("Key of %d in %v: %d, %v; want %d, %v", f, x, key, ok, want, means)
		}
	}
}

func wantKey(t *testing.T, x api.Table, f int, want byte, means bool) {
	t.Helper()
	if key, ok := table.Key(x, f); key != want || ok != means {
		t.Errorf("Key of %d: %d, %v; want %d, %v", f, key, ok, want, means)
	}
}

func wantMeaning(t *testing.T, x api.Table, key byte, want int) {
	t.Helper()
	if got := table.Meaning(x, key); got != want {
		t.Errorf("Meaning of %d: %d; want %d", key, got, want)
	}
}

// wantWith looks that x with that cell is the same but for it.
func wantWith(t *testing.T, x api.Table, f int, c api.Cell) api.Table {
	t.Helper()
	before := x
	got, e := table.With(x, f, c)
	if want := changed(x, map[int]api.Cell{f: c}); got != want || e != api.OK {
		t.Fatalf("With of %v, %d, %v: %v, %d", x, f, c, got, e)
	}
	if x != before {
		t.Fatalf("With of %v, %d, %v changed it to %v", before, f, c, x)
	}
	return got
}

func wantNotWith(t *testing.T, x api.Table, f int, c api.Cell) {
	t.Helper()
	before := x
	if got, e := table.With(x, f, c); got != before || e != api.ErrArg {
		t.Fatalf("With of %v, %d, %v: %v, %d", x, f, c, got, e)
	}
	if x != before {
		t.Fatalf("With of %v, %d, %v changed it to %v", before, f, c, x)
	}
}

// The numbers that the chapter and its tests lean on.
func TestNumbers(t *testing.T) {
	got := []int{
		api.SynchF, api.BrkF, api.IpF, api.AoF, api.AytF, api.EorF, api.AbortF, api.EofF, api.SuspF, api.EcF,
		api.ElF, api.EwF, api.RpF, api.LnextF, api.XonF, api.XoffF, api.Forw1F, api.Forw2F, api.McLF, api.McRF,
		api.McWlF, api.McWrF, api.McBolF, api.McEolF, api.InsrtF, api.OverF, api.EcrF, api.EwrF, api.EbolF, api.EeolF, api.EnterF,
	}
	for i, f := range got {
		if f != i+1 {
			t.Errorf("the function %d is %d", i+1, f)
		}
	}
	if got := []int{api.NoSupport, api.CantChange, api.Value, api.Default}; !slices.Equal(got, []int{0, 1, 2, 3}) {
		t.Errorf("levels: %v", got)
	}
}

// The chapter's three examples.
func TestExamples(t *testing.T) {
	s := table.Standard()
	wantMeaning(t, s, 3, api.IpF)
	wantMeaning(t, s, 127, api.EcF)
	wantMeaning(t, s, 13, api.EnterF)
	wantMeaning(t, s, 'a', 0)
	u := wantWith(t, s, api.ElF, api.Cell{Level: api.Value, V: 127})
	wantMeaning(t, u, 127, api.EcF)
	u = wantWith(t, u, api.EcF, api.Cell{})
	wantMeaning(t, u, 127, api.ElF)
	wantKey(t, s, api.EcF, 127, true)
}

// P8.3: the standard table, cell by cell, each time anew.
func TestStandard(t *testing.T) {
	s := table.Standard()
	for f, want := range standardCells {
		if s[f] != want {
			t.Errorf("cell %d: %v; want %v", f, s[f], want)
		}
	}
	if e := table.Check(s); e != api.OK {
		t.Errorf("Check: %d", e)
	}
	s[api.IpF] = api.Cell{Level: api.Default, V: 99}
	if again := table.Standard(); again != api.Table(standardCells) {
		t.Errorf("a second time: %v", again)
	}
}

// P8.1, P8.3: each of the 256 keys in the standard table, and each function's key.
func TestStandardMeanings(t *testing.T) {
	s := table.Standard()
	keys := map[int]byte{}
	for n := range 256 {
		want := standardMeanings[byte(n)]
		wantMeaning(t, s, byte(n), want)
		if want != 0 {
			keys[want] = byte(n)
		}
	}
	if len(keys) != 26 {
		t.Errorf("%d functions have a key", len(keys))
	}
	for f := range 33 {
		want, means := keys[f]
		wantKey(t, s, f, want, means)
	}
}

// P8.1: the table of zeros: key 13 alone means something.
func TestZeros(t *testing.T) {
	var zeros api.Table
	if e := table.Check(zeros); e != api.OK {
		t.Errorf("Check: %d", e)
	}
	for n := range 256 {
		want := 0
		if n == 13 {
			want = 31
		}
		wantMeaning(t, zeros, byte(n), want)
	}
	for f := 1; f <= 30; f++ {
		wantKey(t, zeros, f, 0, false)
	}
	wantKey(t, zeros, api.EnterF, 13, true)
}

// P8.1: which tables may be.
func TestCheck(t *testing.T) {
	for _, x := range rightTables() {
		if e := table.Check(x); e != api.OK {
			t.Errorf("Check of %v: %d", x, e)
		}
	}
	for _, x := range wrongTables() {
		if e := table.Check(x); e != api.ErrArg {
			t.Errorf("Check of %v: %d", x, e)
		}
	}
}

// P8.1: each cell, with each key, at the levels that there are and beside them.
func TestCheckCells(t *testing.T) {
	for f := range 31 {
		for n := range 256 {
			for level := -2; level <= 5; level++ {
				c := api.Cell{Level: level, V: byte(n)}
				may := c == api.Cell{} || f > 0 && (level == 1 || level == 2)
				for _, x := range []api.Table{of(map[int]api.Cell{f: c}), changed(api.Table(standardCells), map[int]api.Cell{f: c})} {
					if e := table.Check(x); (e == api.OK) != may || (e == api.ErrArg) == may {
						t.Fatalf("Check with cell %d at %v: %d", f, c, e)
					}
				}
			}
		}
	}
}

// P8.1: each key and each function, in tables that may be and in tables that may not.
func TestMeanings(t *testing.T) {
	for _, x := range rightTables() {
		wantMeanings(t, x)
	}
	for i, x := range wrongTables() {
		if i%7 == 0 || i < 100 {
			wantMeanings(t, x)
		}
	}
}

// P8.1: tables that may not be mean what their cells say: cell 0 is no function's, a level that there is not is not NoSupport.
func TestMeaningOfWrongTables(t *testing.T) {
	for _, level := range append([]int{1, 2}, noLevels...) {
		for n := range 256 {
			key, c := byte(n), api.Cell{Level: level, V: byte(n)}
			if key == 13 {
				continue
			}
			wantMeaning(t, api.Table{0: c}, key, 0)
			wantKey(t, api.Table{0: c}, 0, 0, false)
			wantMeaning(t, api.Table{0: c, 30: c}, key, 30)
			wantKey(t, api.Table{0: c, 30: c}, 30, key, true)
			wantMeaning(t, api.Table{7: c, 9: {Level: 2, V: key}}, key, 7)
			wantKey(t, api.Table{7: c, 9: {Level: 2, V: key}}, 9, 0, false)
		}
	}
	for n := range 256 {
		c := api.Cell{V: byte(n)}
		wantKey(t, api.Table{7: c}, 7, 0, false)
		if n != 13 {
			wantMeaning(t, api.Table{7: c}, byte(n), 0)
			wantMeaning(t, api.Table{7: c, 9: {Level: 1, V: byte(n)}}, byte(n), 9)
			wantKey(t, api.Table{7: c, 9: {Level: 1, V: byte(n)}}, 9, byte(n), true)
		}
	}
}

// P8.1: key 13 means EnterF, whatever cell has it; the function of that cell has no key.
func TestEnter(t *testing.T) {
	for f := 1; f <= 30; f++ {
		for _, level := range []int{1, 2, 3, -1} {
			for _, x := range []api.Table{{}, table.Standard()} {
				x[f] = api.Cell{Level: level, V: 13}
				wantMeaning(t, x, 13, api.EnterF)
				wantKey(t, x, f, 0, false)
				wantKey(t, x, api.EnterF, 13, true)
			}
		}
	}
	all := filled(api.Cell{Level: api.Value, V: 13})
	wantMeaning(t, all, 13, api.EnterF)
	for f := 1; f <= 30; f++ {
		wantKey(t, all, f, 0, false)
	}
	wantKey(t, api.Table{0: {Level: 2, V: 13}}, api.EnterF, 13, true)
}

// P8.1: two functions of one key: the lower one is meant, unless it is NoSupport.
func TestSharedKey(t *testing.T) {
	for _, key := range someKeys {
		if key == 13 {
			continue
		}
		for low := 1; low <= 30; low++ {
			for high := low + 1; high <= 30; high++ {
				x := of(map[int]api.Cell{low: {Level: 1, V: key}, high: {Level: 2, V: key}})
				wantMeaning(t, x, key, low)
				wantKey(t, x, low, key, true)
				wantKey(t, x, high, 0, false)
				x[low] = api.Cell{V: key}
				wantMeaning(t, x, key, high)
				wantKey(t, x, low, 0, false)
				wantKey(t, x, high, key, true)
			}
		}
	}
}

// P8.1: more functions of one key, given up one behind the other.
func TestSharedByAll(t *testing.T) {
	for _, key := range []byte{0, 97, 255} {
		x := filled(api.Cell{Level: api.Value, V: key})
		for f := 1; f <= 30; f++ {
			wantMeaning(t, x, key, f)
			for g := 1; g <= 30; g++ {
				if g == f {
					wantKey(t, x, g, key, true)
				} else {
					wantKey(t, x, g, 0, false)
				}
			}
			x = wantWith(t, x, f, api.Cell{})
		}
		wantMeaning(t, x, key, 0)
	}
}

// P8.1: key 0 of a cell that is kept is a key as others are, and of one that is not it is none.
func TestKeyNought(t *testing.T) {
	for f := 1; f <= 30; f++ {
		for _, level := range []int{1, 2} {
			x := changed(table.Standard(), map[int]api.Cell{f: {Level: level}})
			wantMeaning(t, x, 0, f)
			wantKey(t, x, f, 0, true)
		}
		x := changed(table.Standard(), map[int]api.Cell{f: {}})
		wantMeaning(t, x, 0, 0)
		wantKey(t, x, f, 0, false)
	}
}

// P8.1: what is no function has no key, in whatever table.
func TestKeyOfNoFunction(t *testing.T) {
	tables := append(rightTables(), filled(api.Cell{Level: 3, V: 9}), api.Table{0: {Level: 2, V: 3}}, api.Table{0: {Level: 2}})
	for _, f := range noFunctions {
		if f == api.EnterF {
			continue
		}
		for _, x := range tables {
			wantKey(t, x, f, 0, false)
		}
	}
}

// P8.2: each function's cell, changed to cells that may be.
func TestWith(t *testing.T) {
	for _, x := range rightTables() {
		for f := 1; f <= 30; f++ {
			for _, c := range rightCells() {
				if got := wantWith(t, x, f, c); table.Check(got) != api.OK {
					t.Fatalf("With of %v, %d, %v: a table that may not be", x, f, c)
				}
			}
			wantWith(t, x, f, x[f])
		}
	}
}

// P8.2: what is no function has no cell, also if nothing would change, and also the one that is no function's.
func TestWithOfNoFunction(t *testing.T) {
	for _, x := range []api.Table{{}, table.Standard(), chance(1), {0: {Level: 2, V: 3}}, {5: {V: 1}}, filled(api.Cell{Level: 3})} {
		for _, f := range noFunctions {
			for _, c := range []api.Cell{{}, {Level: 1, V: 3}, {Level: 2, V: 3}, {Level: 2}, {Level: 3, V: 3}, {V: 1}} {
				wantNotWith(t, x, f, c)
			}
		}
	}
}

// P8.2: a cell that may not be.
func TestWithWrongCell(t *testing.T) {
	for _, x := range []api.Table{{}, table.Standard(), chance(1), chance(2)} {
		for f := 1; f <= 30; f++ {
			for _, c := range wrongCells() {
				wantNotWith(t, x, f, c)
			}
		}
	}
}

// P8.2: a table with one wrong cell: with that one made right it may be, with another one changed it may not.
func TestWithOfWrongTable(t *testing.T) {
	wrong := []api.Cell{{Level: 3, V: 3}, {Level: -1}, {V: 1}, {V: 255}, {Level: 3}, {Level: math.MaxInt, V: 9}, {Level: math.MinInt}}
	for _, x := range []api.Table{{}, table.Standard()} {
		for at := range 31 {
			for _, w := range wrong {
				broken := changed(x, map[int]api.Cell{at: w})
				for f := 1; f <= 30; f++ {
					for _, c := range []api.Cell{{}, {Level: 1, V: 3}, {Level: 2, V: 255}, x[f]} {
						if f == at {
							wantWith(t, broken, f, c)
						} else {
							wantNotWith(t, broken, f, c)
						}
					}
				}
				wantNotWith(t, broken, max(at, 1), w)
			}
		}
	}
	for _, c := range rightCells()[1:] {
		wantNotWith(t, api.Table{0: c}, 1, api.Cell{})
	}
	for f := 1; f < 30; f++ {
		wantNotWith(t, of(map[int]api.Cell{f: {V: 1}, f + 1: {V: 1}}), f, api.Cell{})
	}
}

// P8.4: a key means one thing, which is a function that has it; the key that Key answers means that function, and no other key does.
func TestOneThing(t *testing.T) {
	for _, x := range rightTables() {
		means := map[int]int{}
		for n := range 256 {
			f := table.Meaning(x, byte(n))
			if f < 0 || f > 31 || f >= 1 && f <= 30 && (x[f].V != byte(n) || x[f].Level == 0) {
				t.Fatalf("Meaning of %d in %v: %d", n, x, f)
			}
			means[f]++
		}
		for f := 1; f <= 31; f++ {
			key, ok := table.Key(x, f)
			if means[f] > 1 || ok != (means[f] == 1) || ok && table.Meaning(x, key) != f {
				t.Fatalf("Key of %d in %v: %d, %v; %d keys mean it", f, x, key, ok, means[f])
			}
		}
	}
}

// meanings is what each key means.
func meanings(x api.Table) [256]int {
	var l [256]int
	for n := range l {
		l[n] = table.Meaning(x, byte(n))
	}
	return l
}

// P8.4: a cell that is changed changes what two keys mean at the most: that which it had, and that which it has.
func TestTwoKeys(t *testing.T) {
	most := 0
	for _, x := range rightTables()[:30] {
		before := meanings(x)
		for f := 1; f <= 30; f++ {
			for _, c := range []api.Cell{{}, {Level: 1}, {Level: 2, V: 3}, {Level: 2, V: 13}, {Level: 1, V: 97}, {Level: 2, V: 255}} {
				y := wantWith(t, x, f, c)
				differ := 0
				for n, means := range meanings(y) {
					if means == before[n] {
						continue
					}
					differ++
					if byte(n) != x[f].V && byte(n) != c.V {
						t.Fatalf("With of %v, %d, %v: %d means %d", x, f, c, n, means)
					}
				}
				most = max(most, differ)
			}
		}
	}
	if most != 2 {
		t.Errorf("%d keys at the most", most)
	}
}

// P8.2, P8.4: cells of two functions, changed in either order, give the same table; so do one cell changed there and back, and changed twice.
func TestOrder(t *testing.T) {
	cells := []api.Cell{{}, {Level: 1, V: 97}, {Level: 2, V: 3}, {Level: 2, V: 13}}
	for _, x := range []api.Table{{}, table.Standard(), chance(2)} {
		for f := 1; f <= 30; f++ {
			for g := 1; g <= 30; g++ {
				for _, c := range cells {
					for _, d := range cells {
						one, two := wantWith(t, x, f, c), wantWith(t, x, g, d)
						if f != g && wantWith(t, one, g, d) != wantWith(t, two, f, c) {
							t.Fatalf("of %v: %d at %v and %d at %v", x, f, c, g, d)
						}
						if f == g && wantWith(t, one, f, d) != two {
							t.Fatalf("of %v: %d at %v, then at %v", x, f, c, d)
						}
						if wantWith(t, one, f, x[f]) != x {
							t.Fatalf("of %v: %d at %v, and back", x, f, c)
						}
					}
				}
			}
		}
	}
}

// The standard table, made cell by cell in any order, is the standard table.
func TestStandardByWith(t *testing.T) {
	for step := 1; step <= 30; step++ {
		var x api.Table
		for i := 1; i <= 30; i++ {
			f := i * step % 31 // 31 is a prime: each function comes once
			x = wantWith(t, x, f, standardCells[f])
		}
		if x != table.Standard() {
			t.Errorf("step %d: %v", step, x)
		}
	}
}
