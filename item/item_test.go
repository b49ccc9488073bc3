package item_test

import (
	"bytes"
	"math"
	"slices"
	"strings"
	"testing"

	"linnet/api"
	"linnet/item"
)

func data(a int) api.Item    { return api.Item{Kind: api.DataI, A: a} }
func cmd(a int) api.Item     { return api.Item{Kind: api.CmdI, A: a} }
func opt(a, b int) api.Item  { return api.Item{Kind: api.OptI, A: a, B: b} }
func copied(x string) []byte { return append(make([]byte, 0, len(x)+9), x...) }

func sub(a int, l string) api.Item {
	return api.Item{Kind: api.SubI, A: a, L: copied(l)}
}

// laidCases are items that may be, and how they lie, written out by hand.
var laidCases = []struct {
	x    api.Item
	laid string
}{
	{data(0), "\x00"},
	{data('a'), "a"},
	{data(10), "\n"},
	{data(12), "\x0c"},
	{data(13), "\r\n"},
	{data(14), "\x0e"},
	{data(254), "\xfe"},
	{data(255), "\xff\xff"},
	{api.Item{Kind: api.DataI, A: 'a', L: []byte{}}, "a"},
	{cmd(api.EofC), "\xff\xec"},
	{cmd(api.SuspC), "\xff\xed"},
	{cmd(api.AbortC), "\xff\xee"},
	{cmd(api.EorC), "\xff\xef"},
	{cmd(241), "\xff\xf1"},
	{cmd(api.MarkC), "\xff\xf2"},
	{cmd(api.BrkC), "\xff\xf3"},
	{cmd(api.IpC), "\xff\xf4"},
	{cmd(api.AoC), "\xff\xf5"},
	{cmd(api.AytC), "\xff\xf6"},
	{cmd(247), "\xff\xf7"},
	{cmd(248), "\xff\xf8"},
	{cmd(249), "\xff\xf9"},
	{api.Item{Kind: api.CmdI, A: api.IpC, L: []byte{}}, "\xff\xf4"},
	{opt(api.Will, 0), "\xff\xfb\x00"},
	{opt(api.Will, 255), "\xff\xfb\xff"},
	{opt(api.Wont, 0), "\xff\xfc\x00"},
	{opt(api.Wont, 255), "\xff\xfc\xff"},
	{opt(api.Do, 0), "\xff\xfd\x00"},
	{opt(api.Do, 34), "\xff\xfd\x22"},
	{opt(api.Do, 255), "\xff\xfd\xff"},
	{opt(api.Dont, 0), "\xff\xfe\x00"},
	{opt(api.Dont, 13), "\xff\xfe\r"},
	{opt(api.Dont, 255), "\xff\xfe\xff"},
	{api.Item{Kind: api.OptI, A: api.Do, B: 1, L: []byte{}}, "\xff\xfd\x01"},
	{api.Item{Kind: api.SubI}, "\xff\xfa\x00\xff\xf0"},
	{sub(34, ""), "\xff\xfa\x22\xff\xf0"},
	{sub(255, ""), "\xff\xfa\xff\xff\xf0"},
	{sub(13, "a"), "\xff\xfa\ra\xff\xf0"},
	{sub(34, "\x01\xff"), "\xff\xfa\x22\x01\xff\xff\xff\xf0"},
	{sub(34, "\xffab"), "\xff\xfa\x22\xff\xffab\xff\xf0"},
	{sub(34, "a\xffb"), "\xff\xfa\x22a\xff\xffb\xff\xf0"},
	{sub(34, "\xff\xff"), "\xff\xfa\x22\xff\xff\xff\xff\xff\xf0"},
	{sub(34, "\xff\x01\xff\x02\xff"), "\xff\xfa\x22\xff\xff\x01\xff\xff\x02\xff\xff\xff\xf0"},
	{sub(34, "\xff\xf0"), "\xff\xfa\x22\xff\xff\xf0\xff\xf0"},
	{sub(34, "\xf0"), "\xff\xfa\x22\xf0\xff\xf0"},
	{sub(34, "\r"), "\xff\xfa\x22\r\xff\xf0"},
	{sub(34, "\r\n\r\x00"), "\xff\xfa\x22\r\n\r\x00\xff\xf0"},
	{sub(34, strings.Repeat("a", 511)), "\xff\xfa\x22" + strings.Repeat("a", 511) + "\xff\xf0"},
	{sub(34, strings.Repeat("a", 512)), "\xff\xfa\x22" + strings.Repeat("a", 512) + "\xff\xf0"},
	{sub(0, strings.Repeat("\xff", 512)), "\xff\xfa\x00" + strings.Repeat("\xff", 1024) + "\xff\xf0"},
}

// wrongItems may not be.
func wrongItems() []api.Item {
	l := []api.Item{{}, {A: 1}, {L: []byte{1}}}
	for _, kind := range []int{-1, 0, 5, 6, 256, 257, 1 << 32, 1<<32 + 1, math.MaxInt, math.MinInt} {
		l = append(l, api.Item{Kind: kind}, api.Item{Kind: kind, A: 241}, api.Item{Kind: kind, A: 251, B: 1})
	}
	for _, n := range []int{-1, 256, 257, -256, 1 << 32, math.MaxInt, math.MinInt} {
		l = append(l, data(n), sub(n, ""), sub(n, "a"))
		for a := api.Will; a <= api.Dont; a++ {
			l = append(l, opt(a, n))
		}
	}
	for _, n := range []int{-1, 0, 1, 235, 240, 250, 251, 254, 255, 256 + 241, -15, 1<<32 + 241, math.MaxInt, math.MinInt} {
		l = append(l, cmd(n))
	}
	for _, n := range []int{-1, 0, 1, 240, 241, 249, 250, 255, 256 + 251, -3, 1<<32 + 251, math.MaxInt, math.MinInt} {
		l = append(l, opt(n, 0), opt(n, 1), opt(n, 255))
	}
	for _, n := range []int{513, 514, 1024, 65536} {
		l = append(l, sub(34, strings.Repeat("a", n)), sub(34, strings.Repeat("\xff", n)))
	}
	for _, n := range []int{1, -1, 255, math.MinInt} {
		l = append(l, api.Item{Kind: api.DataI, A: 'a', B: n}, api.Item{Kind: api.CmdI, A: api.IpC, B: n}, api.Item{Kind: api.SubI, A: 34, B: n})
	}
	for _, b := range [][]byte{{0}, {1}, {255}, make([]byte, 512), make([]byte, 513)} {
		l = append(l, api.Item{Kind: api.DataI, A: 'a', L: b}, api.Item{Kind: api.CmdI, A: api.IpC, L: b}, api.Item{Kind: api.OptI, A: api.Do, B: 1, L: b})
	}
	return l
}

// rightItems is each item that may be, and is no SubI, and many a SubI.
func rightItems() []api.Item {
	var l []api.Item
	for n := range 256 {
		l = append(l, data(n), sub(n, ""), sub(n, "a"), sub(34, string([]byte{byte(n)})))
		for a := api.Will; a <= api.Dont; a++ {
			l = append(l, opt(a, n))
		}
	}
	for _, n := range []int{236, 237, 238, 239, 241, 242, 243, 244, 245, 246, 247, 248, 249} {
		l = append(l, cmd(n))
	}
	for _, a := range []int{0, 34, 240, 250, 254, 255} {
		everyShort(func(s string) {
			if len(s) > 1 {
				l = append(l, sub(a, s))
			}
		})
	}
	return l
}

// everyShort tells each text of up to three octets of those on which laying hangs, and their neighbours.
func everyShort(tell func(s string)) {
	var grow func(s string)
	grow = func(s string) {
		tell(s)
		if len(s) < 3 {
			for _, c := range []byte{0, 10, 13, 240, 250, 254, 255} {
				grow(s + string([]byte{c}))
			}
		}
	}
	grow("")
}

// laidByRule is how an item that may be lies, told octet by octet.
func laidByRule(x api.Item) string {
	var b []byte
	switch {
	case x.Kind == 1 && x.A == 13:
		b = []byte{13, 10}
	case x.Kind == 1 && x.A == 255:
		b = []byte{255, 255}
	case x.Kind == 1:
		b = []byte{byte(x.A)}
	case x.Kind == 2:
		b = []byte{255, byte(x.A)}
	case x.Kind == 3:
		b = []byte{255, byte(x.A), byte(x.B)}
	case x.Kind == 4:
		b = []byte{255, 250, byte(x.A)}
		for _, c := range x.L {
			if c == 255 {
				b = append(b, c)
			}
			b = append(b, c)
		}
		b = append(b, 255, 240)
	}
	return string(b)
}

// spared is items of their own, whose lists have spare memory behind them.
func spared(l []api.Item) []api.Item {
	c := make([]api.Item, 0, len(l)+3)
	for _, x := range l {
		if x.L != nil {
			x.L = copied(string(x.L))
		}
		c = append(c, x)
	}
	return c
}

// unchanged says whether two rows are alike, nil and empty lists told apart, and the memory behind them too.
func unchanged(a, b []api.Item) bool {
	return slices.EqualFunc(a[:cap(a)], b[:cap(b)], func(x, y api.Item) bool {
		return x.Kind == y.Kind && x.A == y.A && x.B == y.B && (x.L == nil) == (y.L == nil) && bytes.Equal(x.L[:cap(x.L)], y.L[:cap(y.L)])
	})
}

func wantLaid(t *testing.T, laid string, l ...api.Item) {
	t.Helper()
	in := spared(l)
	before := spared(l)
	if got, e := item.Put(in...); string(got) != laid || e != api.OK {
		t.Errorf("Put of %v: %q, %d; want %q, 0", l, got, e, laid)
	}
	if n, e := item.Size(in...); n != len(laid) || e != api.OK {
		t.Errorf("Size of %v: %d, %d; want %d, 0", l, n, e, len(laid))
	}
	for _, x := range in {
		if e := item.Check(x); e != api.OK {
			t.Errorf("Check of %v: %d", x, e)
		}
	}
	if !unchanged(in, before) {
		t.Errorf("%v was changed to %v", before, in)
	}
}

func wantRefused(t *testing.T, l ...api.Item) {
	t.Helper()
	in := spared(l)
	before := spared(l)
	if got, e := item.Put(in...); len(got) != 0 || e != api.ErrArg {
		t.Errorf("Put of %v: %q, %d; want nothing, 1", l, got, e)
	}
	if n, e := item.Size(in...); n != 0 || e != api.ErrArg {
		t.Errorf("Size of %v: %d, %d; want 0, 1", l, n, e)
	}
	if !unchanged(in, before) {
		t.Errorf("%v was changed to %v", before, in)
	}
}

// The numbers that the chapter writes out.
func TestNumbers(t *testing.T) {
	got := []int{api.DataI, api.CmdI, api.OptI, api.SubI, api.MaxSub, api.SeC, api.SbC, api.Will, api.Wont, api.Do, api.Dont, api.Iac}
	if !slices.Equal(got, []int{1, 2, 3, 4, 512, 240, 250, 251, 252, 253, 254, 255}) {
		t.Errorf("%v", got)
	}
}

// P3.1: items that may be.
func TestCheckRight(t *testing.T) {
	for _, c := range laidCases {
		if e := item.Check(c.x); e != api.OK {
			t.Errorf("Check of %v: %d", c.x, e)
		}
	}
	for _, x := range rightItems() {
		if e := item.Check(x); e != api.OK {
			t.Errorf("Check of %v: %d", x, e)
		}
	}
}

// P3.1: items that may not be, the chapter's example among them.
func TestCheckWrong(t *testing.T) {
	for _, x := range wrongItems() {
		if e := item.Check(x); e != api.ErrArg {
			t.Errorf("Check of %v: %d", x, e)
		}
	}
}

// P3.1: which numbers may be A and B of each kind, all from below the octets to above them.
func TestCheckNumbers(t *testing.T) {
	for n := -300; n <= 600; n++ {
		octet := n >= 0 && n < 256
		verb := n == 251 || n == 252 || n == 253 || n == 254
		command := n > 235 && n < 250 && n != 240
		for _, c := range []struct {
			x  api.Item
			ok bool
		}{{data(n), octet}, {cmd(n), command}, {opt(n, 7), verb}, {opt(api.Do, n), octet}, {sub(n, "a"), octet},
			{api.Item{Kind: api.DataI, B: n}, n == 0}, {api.Item{Kind: api.CmdI, A: 241, B: n}, n == 0}, {api.Item{Kind: api.SubI, B: n}, n == 0}} {
			if e := item.Check(c.x); (e == api.OK) != c.ok || e != api.OK && e != api.ErrArg {
				t.Errorf("Check of %v: %d", c.x, e)
			}
		}
	}
}

// P3.1: each octet as a DataI.
func TestData(t *testing.T) {
	var all []byte
	for n := range 256 {
		all = append(all, byte(n))
	}
	for _, s := range []string{"", "a", "ab", "\xff\xf4\r\n", string(all), strings.Repeat("\xff", 70000)} {
		b := copied(s)
		got := item.Data(b)
		if len(got) != len(s) {
			t.Errorf("Data of %d octets: %d items", len(s), len(got))
			continue
		}
		for i, x := range got {
			if x.Kind != api.DataI || x.A != int(s[i]) || x.B != 0 || len(x.L) != 0 {
				t.Errorf("Data of %d: %v", s[i], x)
			}
		}
		if string(b) != s {
			t.Errorf("%q was changed to %q", s, b)
		}
	}
	if got := item.Data(nil); len(got) != 0 {
		t.Errorf("Data of nil: %v", got)
	}
}

// P3.1: the same in all parts, whether they may be or not.
func TestSame(t *testing.T) {
	base := api.Item{Kind: api.SubI, A: 34, B: 7, L: []byte{1, 2}}
	other := []api.Item{
		{Kind: api.DataI, A: 34, B: 7, L: []byte{1, 2}},
		{Kind: -4, A: 34, B: 7, L: []byte{1, 2}},
		{Kind: api.SubI, A: 35, B: 7, L: []byte{1, 2}},
		{Kind: api.SubI, A: 34 + 256, B: 7, L: []byte{1, 2}},
		{Kind: api.SubI, A: 34, B: 8, L: []byte{1, 2}},
		{Kind: api.SubI, A: 34, B: 7 + 1<<32, L: []byte{1, 2}},
		{Kind: api.SubI, A: 34, B: 7, L: []byte{1, 3}},
		{Kind: api.SubI, A: 34, B: 7, L: []byte{2, 1}},
		{Kind: api.SubI, A: 34, B: 7, L: []byte{1}},
		{Kind: api.SubI, A: 34, B: 7, L: []byte{1, 2, 0}},
		{Kind: api.SubI, A: 34, B: 7},
		{Kind: api.SubI, A: 7, B: 34, L: []byte{1, 2}},
		{},
	}
	front, back := data('a'), opt(api.Do, 1)
	for _, x := range other {
		for _, rows := range [][2][]api.Item{{{base}, {x}}, {{front, base}, {front, x}}, {{base, back}, {x, back}}, {{front, base, back}, {front, x, back}}} {
			a, b := spared(rows[0]), spared(rows[1])
			if item.Same(a, b) || item.Same(b, a) {
				t.Errorf("Same of %v, %v", a, b)
			}
			if !item.Same(a, spared(a)) || !item.Same(b, spared(b)) {
				t.Errorf("not the Same: %v or %v, and itself", a, b)
			}
			if !unchanged(a, spared(rows[0])) || !unchanged(b, spared(rows[1])) {
				t.Errorf("%v or %v was changed", a, b)
			}
		}
	}
}

// P3.1: no items, a list that is nil, and rows of other lengths.
func TestSameEdges(t *testing.T) {
	empty := sub(34, "")
	none := api.Item{Kind: api.SubI, A: 34}
	for _, rows := range [][2][]api.Item{{nil, nil}, {nil, {}}, {{}, {}}, {{empty}, {none}}, {{{}}, {{L: []byte{}}}}, {{empty, none}, {none, empty}}} {
		if !item.Same(rows[0], rows[1]) || !item.Same(rows[1], rows[0]) {
			t.Errorf("not the Same: %v, %v", rows[0], rows[1])
		}
	}
	a, b := data('a'), data('b')
	for _, rows := range [][2][]api.Item{{nil, {a}}, {{}, {{}}}, {{a}, {a, a}}, {{a}, {a, b}}, {{b}, {a, b}}, {{a, b}, {b, a}}, {{{}}, {{}, {}}}} {
		if item.Same(rows[0], rows[1]) || item.Same(rows[1], rows[0]) {
			t.Errorf("Same of %v, %v", rows[0], rows[1])
		}
	}
}

// P3.2: one item, by hand, the chapter's examples among them.
func TestPutOne(t *testing.T) {
	for _, c := range laidCases {
		wantLaid(t, c.laid, c.x)
	}
}

// P3.2: one item, by the other rule.
func TestPutRule(t *testing.T) {
	for _, x := range rightItems() {
		wantLaid(t, laidByRule(x), x)
	}
}

// P3.2: no items at all, and many.
func TestPutMany(t *testing.T) {
	wantLaid(t, "")
	wantLaid(t, "", []api.Item{}...)
	wantLaid(t, "a\r\n\xff\xff\xff\xf4\xff\xfd\x22\xff\xfa\x22\x01\xff\xff\xff\xf0b", data('a'), data(13), data(255), cmd(api.IpC), opt(api.Do, 34), sub(34, "\x01\xff"), data('b'))
	wantLaid(t, "\r\n\n", data(13), data(10))
	wantLaid(t, "\xff\xff\xff\xff", data(255), data(255))
	all := rightItems()
	var laid strings.Builder
	for _, x := range all {
		laid.WriteString(laidByRule(x))
	}
	wantLaid(t, laid.String(), all...)
}

// P3.2: one that may not be, alone and among others that may.
func TestPutWrong(t *testing.T) {
	a, s := data('a'), sub(34, "\x01\xff")
	for _, x := range wrongItems() {
		wantRefused(t, x)
		wantRefused(t, x, a)
		wantRefused(t, a, x)
		wantRefused(t, s, a, x, cmd(api.IpC))
		wantRefused(t, x, x)
	}
}

// P3.3: wherever a row is cut, its two pieces, put one behind the other, are put as one.
func TestPutInPieces(t *testing.T) {
	few := []api.Item{data(13), data(10), data(0), data(255), data(240), cmd(api.IpC), opt(api.Will, 255), sub(255, "\xff"), sub(240, "")}
	var rows [][]api.Item
	for _, x := range few {
		for _, y := range few {
			for _, z := range few {
				rows = append(rows, []api.Item{x, y, z})
			}
		}
	}
	for _, l := range append(rows, nil, rightItems()[:600]) {
		whole, _ := item.Put(l...)
		size, _ := item.Size(l...)
		for at := range len(l) + 1 {
			front, e := item.Put(l[:at]...)
			back, f := item.Put(l[at:]...)
			if got := append(front, back...); !bytes.Equal(got, whole) || e != api.OK || f != api.OK {
				t.Fatalf("%v cut at %d: %q, want %q", l, at, got, whole)
			}
			n, _ := item.Size(l[:at]...)
			m, _ := item.Size(l[at:]...)
			if n+m != size || size != len(whole) {
				t.Fatalf("%v cut at %d: sizes %d and %d, want %d", l, at, n, m, size)
			}
		}
	}
}

// P3.3: no two items lie alike, and none lies as the beginning of another one: in order, one that did would stand right behind what it begins with.
func TestNoneBeginsAnother(t *testing.T) {
	var laid []string
	for _, x := range distinct(rightItems()) {
		b, e := item.Put(x)
		if len(b) == 0 || e != api.OK {
			t.Fatalf("Put of %v: %q, %d", x, b, e)
		}
		laid = append(laid, string(b))
	}
	slices.Sort(laid)
	for i := 1; i < len(laid); i++ {
		if strings.HasPrefix(laid[i], laid[i-1]) {
			t.Errorf("%q begins with %q", laid[i], laid[i-1])
		}
	}
}

// distinct is the items of l, each of them once.
func distinct(l []api.Item) []api.Item {
	type key struct {
		kind, a, b int
		l          string
	}
	seen := map[key]bool{}
	var once []api.Item
	for _, x := range l {
		k := key{x.Kind, x.A, x.B, string(x.L)}
		if !seen[k] {
			seen[k] = true
			once = append(once, x)
		}
	}
	return once
}

// P3.1 and P3.2: what is answered has no part in common with what was handed in, spare memory behind it included.
func TestApart(t *testing.T) {
	for _, s := range []string{"", "a", "ab\xff", strings.Repeat("a", 512)} {
		in := []api.Item{sub(34, s)}
		before := spared(in)
		one, _ := item.Put(in...)
		two, _ := item.Put(in...)
		spoil(one)
		if !bytes.Equal(in[0].L, before[0].L) || string(two) != laidByRule(in[0]) {
			t.Errorf("Put of %q: the answer has a part in common with another list", s)
		}
		spoil(in[0].L)
		if string(two) != laidByRule(before[0]) {
			t.Errorf("Put of %q: the answer changes with what was handed in", s)
		}
	}
	b := copied("abc")
	l := item.Data(b)
	spoil(b)
	if !item.Same(l, []api.Item{data('a'), data('b'), data('c')}) {
		t.Errorf("Data: %v", l)
	}
}

// spoil writes over a list, to the end of its memory.
func spoil(b []byte) {
	whole := b[:cap(b)]
	for i := range whole {
		whole[i] ^= 255
	}
}
