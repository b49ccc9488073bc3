package reader_test

import (
	"bytes"
	"math"
	"slices"
	"strings"
	"testing"

	"linnet/api"
	"linnet/item"
	"linnet/reader"
)

func data(a int) api.Item   { return api.Item{Kind: api.DataI, A: a} }
func cmd(a int) api.Item    { return api.Item{Kind: api.CmdI, A: a} }
func opt(a, b int) api.Item { return api.Item{Kind: api.OptI, A: a, B: b} }

func sub(a int, l string) api.Item {
	return api.Item{Kind: api.SubI, A: a, L: []byte(l)}
}

func text(s string) []api.Item { return item.Data([]byte(s)) }

func row(l ...api.Item) []api.Item { return l }

// many is n octets of which neighbours differ, none of them a 255.
func many(n int) string {
	b := make([]byte, n)
	for i := range b {
		b[i] = byte(i*7+i>>8) % 255
	}
	return string(b)
}

// spared is a list of its own, with spare memory behind it that is not of noughts.
func spared(s string) []byte {
	b := append([]byte(s), "spare memory"...)
	return b[:len(s)]
}

// wantFed feeds s to r, and looks that neither was changed, and that what comes is what is wanted, and may be.
func wantFed(t *testing.T, r api.Reader, s string, next api.Reader, l []api.Item) {
	t.Helper()
	given := r
	given.L = spared(string(r.L))
	b := spared(s)
	p, got, e := reader.Feed(given, b)
	if p.In != next.In || p.Verb != next.Verb || p.Option != next.Option || !bytes.Equal(p.L, next.L) || e != api.OK {
		t.Fatalf("Feed of %v with %q: %v, error %d; want %v", r, s, p, e, next)
	}
	if !item.Same(got, l) {
		t.Fatalf("Feed of %v with %q: %v; want %v", r, s, got, l)
	}
	wantBounded(t, p, got, len(s))
	if !bytes.Equal(given.L[:cap(given.L)], spared(string(r.L))[:cap(given.L)]) || !bytes.Equal(b[:cap(b)], spared(s)[:cap(b)]) {
		t.Fatalf("Feed of %v with %q: what was handed in was changed", r, s)
	}
}

// wantBounded is P4.3's last sentence.
func wantBounded(t *testing.T, p api.Reader, l []api.Item, octets int) {
	t.Helper()
	if reader.Check(p) != api.OK || len(p.L) > api.MaxSub {
		t.Fatalf("a reader that may not be: %v", p)
	}
	if len(l) > octets {
		t.Fatalf("%d items of %d octets", len(l), octets)
	}
	for _, x := range l {
		if item.Check(x) != api.OK {
			t.Fatalf("an item that may not be: %v", x)
		}
	}
}

// goodReaders are readers that may be, in each of the nine places.
func goodReaders() []api.Reader {
	var l []api.Reader
	for _, in := range []int{0, 1, 2, 4, 7, 8} {
		l = append(l, api.Reader{In: in}, api.Reader{In: in, L: []byte{}})
	}
	for verb := 251; verb <= 254; verb++ {
		l = append(l, api.Reader{In: 3, Verb: verb})
	}
	for _, in := range []int{5, 6} {
		for _, option := range []int{0, 1, 34, 254, 255} {
			for _, told := range []string{"", "\xff", "\r", many(510), many(511), many(512), strings.Repeat("\xff", 512)} {
				l = append(l, api.Reader{In: in, Option: option, L: []byte(told)})
			}
		}
	}
	return l
}

// badReaders are readers that may not be.
func badReaders() []api.Reader {
	var l []api.Reader
	for _, in := range []int{-1, 9, 10, 256, -256, 1 << 32, math.MaxInt, math.MinInt} {
		l = append(l, api.Reader{In: in}, api.Reader{In: in, Verb: 251}, api.Reader{In: in, Option: 34, L: []byte{1}})
	}
	for _, verb := range []int{0, 1, -1, 250, 255, 256, 251 - 256, 251 + 256, 251 + 1<<32, math.MaxInt, math.MinInt} {
		l = append(l, api.Reader{In: 3, Verb: verb})
	}
	for _, in := range []int{0, 1, 2, 4, 5, 6, 7, 8} {
		for _, verb := range []int{1, -1, 251, 252, 253, 254, math.MaxInt} {
			l = append(l, api.Reader{In: in, Verb: verb})
		}
	}
	for _, in := range []int{0, 1, 2, 3, 4, 7, 8} {
		verb := 0
		if in == 3 {
			verb = 253
		}
		for _, option := range []int{1, -1, 34, 255, 256, math.MinInt} {
			l = append(l, api.Reader{In: in, Verb: verb, Option: option})
		}
		for _, told := range []string{"\x00", "a", "\xff", many(512), many(513)} {
			l = append(l, api.Reader{In: in, Verb: verb, L: []byte(told)})
		}
	}
	for _, in := range []int{5, 6} {
		for _, option := range []int{-1, 256, 34 + 256, 34 + 1<<32, math.MaxInt, math.MinInt} {
			l = append(l, api.Reader{In: in, Option: option}, api.Reader{In: in, Option: option, L: []byte{1}})
		}
		for _, n := range []int{513, 514, 600, 70000} {
			l = append(l, api.Reader{In: in, L: make([]byte, n)}, api.Reader{In: in, Option: 34, L: []byte(many(n))})
		}
		l = append(l, api.Reader{In: in, Verb: 251, Option: 34, L: []byte{1}})
	}
	return l
}

// P4.1: the chapter's numbers are api's.
func TestNumbers(t *testing.T) {
	got := []int{api.InData, api.InReturn, api.InCommand, api.InVerb, api.InOption, api.InSub, api.InSubEnd, api.InSkip, api.InSkipEnd, api.MaxSub}
	if !slices.Equal(got, []int{0, 1, 2, 3, 4, 5, 6, 7, 8, 512}) {
		t.Errorf("the numbers: %v", got)
	}
}

// P4.1, Check.
func TestCheck(t *testing.T) {
	for _, r := range goodReaders() {
		if e := reader.Check(r); e != api.OK {
			t.Errorf("Check of %v: error %d", r, e)
		}
	}
	for _, r := range badReaders() {
		if e := reader.Check(r); e != api.ErrArg {
			t.Errorf("Check of %v: error %d", r, e)
		}
	}
}

// P4.1: each place with each verb and each option, some beyond what may be.
func TestCheckEach(t *testing.T) {
	for in := -2; in <= 10; in++ {
		for n := -2; n <= 258; n++ {
			inSub := in == 5 || in == 6
			cases := []struct {
				r  api.Reader
				ok bool
			}{
				{api.Reader{In: in, Verb: n}, in == 3 && n >= 251 && n <= 254 || in >= 0 && in <= 8 && in != 3 && n == 0},
				{api.Reader{In: in, Option: n}, inSub && n >= 0 && n <= 255 || in >= 0 && in <= 8 && in != 3 && n == 0},
				{api.Reader{In: in, Verb: 252, Option: n}, in == 3 && n == 0},
				{api.Reader{In: in, Option: n, L: []byte{0}}, inSub && n >= 0 && n <= 255},
			}
			for _, c := range cases {
				if ok := reader.Check(c.r) == api.OK; ok != c.ok {
					t.Errorf("Check of %v: %v", c.r, ok)
				}
			}
		}
	}
}

// P4.1, Same: of readers that may be and of ones that may not.
func TestSame(t *testing.T) {
	cases := []struct {
		a, b api.Reader
		same bool
	}{
		{api.Reader{}, api.Reader{}, true},
		{api.Reader{}, api.Reader{L: []byte{}}, true},
		{api.Reader{In: 5, Option: 34, L: []byte{1, 2}}, api.Reader{In: 5, Option: 34, L: spared("\x01\x02")}, true},
		{api.Reader{In: -7, Verb: 9, Option: -1, L: []byte{3}}, api.Reader{In: -7, Verb: 9, Option: -1, L: []byte{3}}, true},
		{api.Reader{In: 5, L: make([]byte, 600)}, api.Reader{In: 5, L: make([]byte, 600)}, true},
		{api.Reader{}, api.Reader{In: 1}, false},
		{api.Reader{In: 5, Option: 34}, api.Reader{In: 6, Option: 34}, false},
		{api.Reader{In: 3, Verb: 251}, api.Reader{In: 3, Verb: 252}, false},
		{api.Reader{In: 5, Option: 34}, api.Reader{In: 5, Option: 35}, false},
		{api.Reader{Verb: 1}, api.Reader{Option: 1}, false},
		{api.Reader{In: 5}, api.Reader{In: 5, L: []byte{0}}, false},
		{api.Reader{In: 5, L: []byte{1}}, api.Reader{In: 5, L: []byte{1, 2}}, false},
		{api.Reader{In: 5, L: []byte{1, 2}}, api.Reader{In: 5, L: []byte{2, 1}}, false},
		{api.Reader{In: 5, L: []byte{1, 2}}, api.Reader{In: 5, L: []byte{1, 3}}, false},
		{api.Reader{In: 256}, api.Reader{}, false},
		{api.Reader{Verb: 1 << 32}, api.Reader{}, false},
		{api.Reader{Option: 1 << 32}, api.Reader{}, false},
	}
	for i, c := range cases {
		if reader.Same(c.a, c.b) != c.same || reader.Same(c.b, c.a) != c.same {
			t.Errorf("case %d: want %v", i, c.same)
		}
	}
}

// rule is a line of the chapter's table: in a place, the octets from first to last lead to next; which item comes is told by its kind, 0 if none does.
type rule struct{ in, first, last, next, kind int }

// rules are the chapter's table for L with room, the first that fits holding. as is the place whose rules hold where none fits.
var rules = []rule{
	{0, 255, 255, 2, 0}, {0, 13, 13, 1, 1}, {0, 0, 255, 0, 1},
	{1, 10, 10, 0, 0}, {1, 0, 0, 0, 0},
	{2, 255, 255, 0, 1}, {2, 251, 254, 3, 0}, {2, 250, 250, 4, 0}, {2, 236, 239, 0, 2}, {2, 241, 249, 0, 2}, {2, 0, 255, 0, 0},
	{3, 0, 255, 0, 3},
	{4, 0, 255, 5, 0},
	{5, 255, 255, 6, 0}, {5, 0, 254, 5, 0},
	{6, 255, 255, 5, 0}, {6, 240, 240, 0, 4},
	{7, 255, 255, 8, 0}, {7, 0, 254, 7, 0},
	{8, 255, 255, 7, 0}, {8, 240, 240, 0, 0},
}

var as = map[int]int{1: 0, 6: 2, 8: 2}

func ruleOf(in, c int) rule {
	for _, u := range rules {
		if u.in == in && u.first <= c && c <= u.last {
			return u
		}
	}
	return ruleOf(as[in], c)
}

// byRule is what comes of one octet, by the table.
func byRule(r api.Reader, c int) (api.Reader, []api.Item) {
	u := ruleOf(r.In, c)
	var l []api.Item
	switch u.kind {
	case 1:
		l = row(data(c))
	case 2:
		l = row(cmd(c))
	case 3:
		l = row(opt(r.Verb, c))
	case 4:
		l = row(sub(r.Option, string(r.L)))
	}
	next := api.Reader{In: u.next}
	switch {
	case u.next == 3:
		next.Verb = c
	case r.In == 4:
		next.Option = c
	case r.In == 5 && u.next == 6:
		next.Option, next.L = r.Option, r.L
	case u.next == 5 && len(r.L) >= 512:
		next.In = 7
	case u.next == 5:
		next.Option, next.L = r.Option, append(bytes.Clone(r.L), byte(c))
	}
	return next, l
}

// P4.2: each octet in each of the nine places.
func TestFeedOctet(t *testing.T) {
	for _, r := range goodReaders() {
		for c := range 256 {
			next, l := byRule(r, c)
			wantFed(t, r, string([]byte{byte(c)}), next, l)
		}
	}
}

// fed are octets, and what comes of them in a new reader, written out by hand.
var fed = []struct {
	s    string
	next api.Reader
	l    []api.Item
}{
	{"", api.Reader{}, nil},
	{"\x01\r\n\x02", api.Reader{}, text("\x01\r\x02")},
	{"\xff\xfa\x22\x01\xff\xf0", api.Reader{}, row(sub(34, "\x01"))},
	{"\xff\xfa\x22" + strings.Repeat("\x01", 600) + "\xff\xf0\x07", api.Reader{}, text("\x07")},

	{"a\n\x00\xfeb", api.Reader{}, text("a\n\x00\xfeb")},
	{"\r", api.Reader{In: 1}, text("\r")},
	{"\r\r", api.Reader{In: 1}, text("\r\r")},
	{"\r\r\n", api.Reader{}, text("\r\r")},
	{"\r\ra", api.Reader{}, text("\r\ra")},
	{"\r\n\n", api.Reader{}, text("\r\n")},
	{"\r\n\x00", api.Reader{}, text("\r\x00")},
	{"\r\x00\x00", api.Reader{}, text("\r\x00")},
	{"\r\x00\n", api.Reader{}, text("\r\n")},
	{"\r\n\r", api.Reader{In: 1}, text("\r\r")},
	{"\ra\n", api.Reader{}, text("\ra\n")},
	{"\xff\xff\r\n", api.Reader{}, text("\xff\r")},
	{"\xff\xff\r", api.Reader{In: 1}, text("\xff\r")},
	{"\xff\xff\n", api.Reader{}, text("\xff\n")},
	{"\r\xff\xff\n", api.Reader{}, text("\r\xff\n")},
	{"\r\xff\xf4\n", api.Reader{}, row(data(13), cmd(244), data(10))},
	{"\r\xff", api.Reader{In: 2}, text("\r")},

	{"\xff\xff", api.Reader{}, text("\xff")},
	{"\xff\xff\xff", api.Reader{In: 2}, text("\xff")},
	{"\xff\xff\xff\xff", api.Reader{}, text("\xff\xff")},
	{"a\xff\xf4b", api.Reader{}, row(data('a'), cmd(244), data('b'))},
	{"\xff\xeca\xff\xefb\xff\xf1c\xff\xf9", api.Reader{}, row(cmd(236), data('a'), cmd(239), data('b'), cmd(241), data('c'), cmd(249))},
	{"\xff\xf0a\xff\xebb\xff\x00c\xff\rd\xff\ne", api.Reader{}, text("abcde")},
	{"\xff\r\n", api.Reader{}, text("\n")},

	{"\xff\xfb", api.Reader{In: 3, Verb: 251}, nil},
	{"\xff\xfe", api.Reader{In: 3, Verb: 254}, nil},
	{"\xff\xfb\x00\xff\xfc\xff\xff\xfd\x22\xff\xfe\r\n", api.Reader{}, row(opt(251, 0), opt(252, 255), opt(253, 34), opt(254, 13), data(10))},
	{"\xff\xfd\xff\xf4", api.Reader{}, row(opt(253, 255), data(244))},

	{"\xff\xfa", api.Reader{In: 4}, nil},
	{"\xff\xfa\xff", api.Reader{In: 5, Option: 255}, nil},
	{"\xff\xfa\xff\xff\xf0", api.Reader{}, row(sub(255, ""))},
	{"\xff\xfa\x00\xff\xf0", api.Reader{}, row(sub(0, ""))},
	{"\xff\xfa\xf0\xf0\xff\xf0\xf0", api.Reader{}, row(sub(240, "\xf0"), data(240))},
	{"\xff\xfa\x22\r\n\r\x00\r\xff\xf0\n", api.Reader{}, row(sub(34, "\r\n\r\x00\r"), data(10))},
	{"\xff\xfa\x22\xff\xff\xff\xff\xff\xf0", api.Reader{}, row(sub(34, "\xff\xff"))},
	{"\xff\xfa\x22a\xff\xffb", api.Reader{In: 5, Option: 34, L: []byte("a\xffb")}, nil},
	{"\xff\xfa\x22a\xff", api.Reader{In: 6, Option: 34, L: []byte("a")}, nil},
	{"\xff\xfa\x22ab\xff\xf4c", api.Reader{}, row(cmd(244), data('c'))},
	{"\xff\xfa\x22ab\xff\xfbc", api.Reader{}, row(opt(251, 'c'))},
	{"\xff\xfa\x22ab\xff\xfdc\xff\xf0d", api.Reader{}, row(opt(253, 'c'), data('d'))},
	{"\xff\xfa\x22ab\xff\xfa\x07c\xff\xf0", api.Reader{}, row(sub(7, "c"))},
	{"\xff\xfa\x22ab\xff\xfa", api.Reader{In: 4}, nil},
	{"\xff\xfa\x22ab\xff\x01c\xff\xf0d", api.Reader{}, text("cd")},
	{"\xff\xfa\x22ab\xff\r\n", api.Reader{}, text("\n")},
	{"\xff\xfa\x22a\xff\xf0\xff\xfa\x22b\xff\xf0", api.Reader{}, row(sub(34, "a"), sub(34, "b"))},
}

// P4.2: by hand, the chapter's three examples first.
func TestFeed(t *testing.T) {
	for _, c := range fed {
		wantFed(t, api.Reader{}, c.s, c.next, c.l)
	}
}

// laid is how what is told lies.
func laid(s string) string {
	return "\xff\xfa\x22" + strings.ReplaceAll(s, "\xff", "\xff\xff") + "\xff\xf0"
}

// P4.2: what is told at its longest, and longer.
func TestLong(t *testing.T) {
	for _, n := range []int{0, 1, 510, 511, 512} {
		for _, s := range []string{many(n), strings.Repeat("\xff", n), strings.Repeat("\r", n)} {
			wantFed(t, api.Reader{}, laid(s)+"z", api.Reader{}, row(sub(34, s), data('z')))
		}
	}
	for _, s := range []string{many(511) + "\xff", many(510) + "\xff\xff"} {
		wantFed(t, api.Reader{}, laid(s)+"z", api.Reader{}, row(sub(34, s), data('z')))
	}
	for _, s := range []string{many(513), many(600), many(512) + "\xff", many(511) + "\xff\xff", many(511) + "\xffa",
		strings.Repeat("\xff", 513), strings.Repeat("\xff", 600), many(70000)} {
		wantFed(t, api.Reader{}, laid(s)+"z", api.Reader{}, text("z"))
		open := strings.TrimSuffix(laid(s), "\xff\xf0")
		wantFed(t, api.Reader{}, open, api.Reader{In: 7}, nil)
		wantFed(t, api.Reader{}, open+"\xff", api.Reader{In: 8}, nil)
	}
	full := "\xff\xfa\x22" + many(512)
	wantFed(t, api.Reader{}, full, api.Reader{In: 5, Option: 34, L: []byte(many(512))}, nil)
	wantFed(t, api.Reader{}, full+"\xff", api.Reader{In: 6, Option: 34, L: []byte(many(512))}, nil)
	wantFed(t, api.Reader{}, full+"\xff\xff", api.Reader{In: 7}, nil)
	wantFed(t, api.Reader{}, full+"\xff\xf4", api.Reader{}, row(cmd(244)))
}

// P4.2: what ends that which is too long.
func TestTooLong(t *testing.T) {
	front := "\xff\xfa\x22" + many(600)
	cases := []struct {
		s    string
		next api.Reader
		l    []api.Item
	}{
		{"\xff\xf0b", api.Reader{}, text("b")},
		{"\xff\xffa\xff\xf0b", api.Reader{}, text("b")},
		{"\xff\xff\xf0a\xff\xf0b", api.Reader{}, text("b")},
		{"\xf0\r\n\xff\xf0\n", api.Reader{}, text("\n")},
		{"\xff\xf4b", api.Reader{}, row(cmd(244), data('b'))},
		{"\xff\xfb\x01b", api.Reader{}, row(opt(251, 1), data('b'))},
		{"\xff\xfe", api.Reader{In: 3, Verb: 254}, nil},
		{"\xff\xfa\x07b\xff\xf0", api.Reader{}, row(sub(7, "b"))},
		{"\xff\xfa", api.Reader{In: 4}, nil},
		{"\xff\x01b", api.Reader{}, text("b")},
		{"\xff\rb", api.Reader{}, text("b")},
	}
	for _, c := range cases {
		wantFed(t, api.Reader{}, front+c.s, c.next, c.l)
		wantFed(t, api.Reader{In: api.InSkip}, c.s, c.next, c.l)
	}
}

// P4.2: no octets at all lead nowhere.
func TestFeedNothing(t *testing.T) {
	for _, r := range goodReaders() {
		wantFed(t, r, "", r, nil)
		p, l, e := reader.Feed(r, nil)
		if !reader.Same(p, r) || len(l) != 0 || e != api.OK {
			t.Errorf("Feed of %v with nil: %v, %v, error %d", r, p, l, e)
		}
	}
}

// P4.2: one that may not be comes back as it is.
func TestBadReaders(t *testing.T) {
	for _, bad := range badReaders() {
		told := string(bad.L)
		for _, b := range [][]byte{nil, {}, {'a'}, {255, 240}, []byte("\r\nab\xff\xfb\x01")} {
			before := bytes.Clone(b)
			p, l, e := reader.Feed(bad, b)
			if len(l) != 0 || e != api.ErrArg {
				t.Fatalf("Feed of %v: %v, error %d", bad, l, e)
			}
			if p.In != bad.In || p.Verb != bad.Verb || p.Option != bad.Option || string(p.L) != told {
				t.Fatalf("Feed of %v: %v", bad, p)
			}
			if string(bad.L) != told || !bytes.Equal(b, before) {
				t.Fatalf("Feed of %v: what was handed in was changed", bad)
			}
		}
	}
}

// wantApart writes over each list, to the end of its memory, and looks whether another one changes.
func wantApart(t *testing.T, what string, lists ...[]byte) {
	t.Helper()
	for i, b := range lists {
		var before [][]byte
		for _, o := range lists {
			before = append(before, bytes.Clone(o[:cap(o)]))
		}
		whole := b[:cap(b)]
		for at := range whole {
			whole[at] ^= 255
		}
		for j, o := range lists {
			if i != j && !bytes.Equal(o[:cap(o)], before[j]) {
				t.Fatalf("%q: lists %d and %d have a part in common", what, i, j)
			}
		}
	}
}

// listsOf are all lists of an answer.
func listsOf(r api.Reader, l []api.Item) [][]byte {
	lists := [][]byte{r.L}
	for _, x := range l {
		lists = append(lists, x.L)
	}
	return lists
}

// P4.2: what is answered has no part in common with what was handed in, nor have two lists of one answer, nor two answers.
func TestApart(t *testing.T) {
	for _, r := range append(goodReaders(), badReaders()...) {
		for _, s := range []string{"", "a", "\xff", "a\xff\xf0", "\xff\xf0", "ab\xff\xf0\xff\xfa\x22c\xff\xf0\xff\xfa\x23de", "\xff\xf0\xff\xfa\x22\xff\xf0\xff\xfa\x22"} {
			given := r
			given.L = spared(string(r.L))
			b := spared(s)
			one, l, _ := reader.Feed(given, b)
			two, m, _ := reader.Feed(given, b)
			lists := append([][]byte{given.L, b}, listsOf(one, l)...)
			wantApart(t, s, append(lists, listsOf(two, m)...)...)
		}
	}
}

// P4.2: two calls that go on from one reader do not see each other, and it stays.
func TestFeedTwice(t *testing.T) {
	r, _, _ := reader.Feed(api.Reader{}, []byte("\xff\xfa\x22abc"))
	one, _, _ := reader.Feed(r, []byte("d"))
	two, _, _ := reader.Feed(r, []byte("e"))
	if string(r.L) != "abc" || string(one.L) != "abcd" || string(two.L) != "abce" {
		t.Errorf("%q, %q, %q", r.L, one.L, two.L)
	}
}

// feedCut feeds b in pieces, cut at the given places.
func feedCut(t *testing.T, r api.Reader, b []byte, cuts ...int) (api.Reader, []api.Item) {
	t.Helper()
	var l []api.Item
	from := 0
	for _, at := range append(cuts, len(b)) {
		p, more, e := reader.Feed(r, b[from:at])
		if e != api.OK {
			t.Fatalf("Feed of %v with %q: error %d", r, b[from:at], e)
		}
		wantBounded(t, p, more, at-from)
		r, l, from = p, append(l, more...), at
	}
	return r, l
}

// wantCut looks that s comes to the same, cut at each place, at each two, and at all of them.
func wantCut(t *testing.T, s string, next api.Reader, l []api.Item) {
	t.Helper()
	b := []byte(s)
	var all []int
	for i := range len(b) + 1 {
		all = append(all, i)
		seconds := []int{i}
		for j := i; len(b) < 40 && j <= len(b); j++ {
			seconds = append(seconds, j)
		}
		for _, j := range seconds {
			if r, got := feedCut(t, api.Reader{}, b, i, j); !reader.Same(r, next) || !item.Same(got, l) {
				t.Fatalf("%q cut at %d and %d: %v, %v; want %v, %v", s, i, j, r, got, next, l)
			}
		}
	}
	if r, got := feedCut(t, api.Reader{}, b, all...); !reader.Same(r, next) || !item.Same(got, l) {
		t.Fatalf("%q octet by octet: %v, %v; want %v, %v", s, r, got, next, l)
	}
}

// P4.3: however octets are cut, the same items come; the chapter's examples among them.
func TestCut(t *testing.T) {
	for _, c := range fed {
		wantCut(t, c.s, c.next, c.l)
	}
	for _, s := range []string{many(512), many(511) + "\xff", strings.Repeat("\xff", 512)} {
		wantCut(t, laid(s)+"\r\n", api.Reader{}, row(sub(34, s), data(13)))
	}
	for _, s := range []string{many(513), many(512) + "\xff", strings.Repeat("\xff", 513)} {
		wantCut(t, laid(s)+"\r\n", api.Reader{}, text("\r"))
	}
}

// picks are numbers that look like chance, and are the same each time.
func picks(seed uint32) func(below int) int {
	return func(below int) int {
		seed = seed*1664525 + 1013904223
		return int(seed>>8) % below
	}
}

// P4.2 and P4.3: long rows of the octets on which reading hangs, cut anywhere, by the table.
func TestManyOctets(t *testing.T) {
	often := []byte{255, 255, 255, 255, 250, 240, 13, 10, 0, 251, 254, 244, 34, 'a'}
	for seed := range 60 {
		pick := picks(uint32(seed))
		b := make([]byte, 1500)
		for i := range b {
			b[i] = byte(pick(256))
			// Some rows are mostly of octets that end nothing, so that what is told grows too long.
			if pick(100) > seed {
				b[i] = often[pick(len(often))]
			} else if seed > 40 && b[i] > 235 && pick(30) > 0 {
				b[i] = 'b'
			}
		}
		r := api.Reader{}
		var l []api.Item
		for _, c := range b {
			next, more := byRule(r, int(c))
			r, l = next, append(l, more...)
		}
		wantFed(t, api.Reader{}, string(b), r, l)
		var cuts []int
		for at := pick(9); at <= len(b); at += pick(40) {
			cuts = append(cuts, at)
		}
		if p, got := feedCut(t, api.Reader{}, b, cuts...); !reader.Same(p, r) || !item.Same(got, l) {
			t.Fatalf("row %d, cut: %v, %d items; want %v, %d items", seed, p, len(got), r, len(l))
		}
	}
}

// puttable is each item that may be, and is no SubI, and many a SubI.
func puttable() []api.Item {
	var l []api.Item
	for n := range 256 {
		l = append(l, data(n), sub(n, ""), sub(n, "a"), sub(34, string([]byte{byte(n)})))
		for verb := api.Will; verb <= api.Dont; verb++ {
			l = append(l, opt(verb, n))
		}
		if item.Check(cmd(n)) == api.OK {
			l = append(l, cmd(n))
		}
	}
	for _, s := range []string{"\xff\xf0", "\xff\xff", "\r\n\r\x00", many(511), many(512), strings.Repeat("\xff", 512), many(511) + "\xff"} {
		l = append(l, sub(0, s), sub(34, s), sub(255, s))
	}
	return l
}

// wantBack looks that items that were put come again, and that nothing is left over.
func wantBack(t *testing.T, l ...api.Item) {
	t.Helper()
	b, e := item.Put(l...)
	if e != api.OK {
		t.Fatalf("Put of %v: error %d", l, e)
	}
	r, got, e := reader.Feed(api.Reader{}, b)
	if !reader.Same(r, api.Reader{}) || !item.Same(got, l) || e != api.OK {
		t.Errorf("%v was put, as %q: %v, %v, error %d", l, b, r, got, e)
	}
}

// P4.3: what was put comes again, one by one, each behind each of some others, and all at once.
func TestPutComesAgain(t *testing.T) {
	all := puttable()
	fronts := row(data(13), data(255), data(10), data(0), cmd(244), opt(253, 255), sub(34, ""), sub(255, "\xff"), sub(34, many(512)))
	wantBack(t)
	wantBack(t, all...)
	slices.Reverse(all)
	wantBack(t, all...)
	for _, x := range all {
		wantBack(t, x)
		for _, front := range fronts {
			wantBack(t, front, x)
		}
	}
}

// P4.3: whatever comes, behind whatever came, no more is kept than is bounded.
func TestKept(t *testing.T) {
	r := api.Reader{}
	pick := picks(7)
	front := []byte("\xff\xfa\x22")
	for range 400 {
		b := front
		for range pick(300) {
			b = append(b, byte(pick(255)))
		}
		p, l, e := reader.Feed(r, b)
		if e != api.OK {
			t.Fatalf("Feed: error %d", e)
		}
		wantBounded(t, p, l, len(b))
		r, front = p, nil
	}
	if !reader.Same(r, api.Reader{In: api.InSkip}) {
		t.Errorf("behind many octets that end nothing: %v", r)
	}
}
