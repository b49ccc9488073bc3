package nvt_test

import (
	"bytes"
	"strings"
	"testing"

	"linnet/nvt"
)

// laidCases are data and how it lies, written out by hand.
var laidCases = []struct{ data, laid string }{
	{"", ""},
	{"a", "a"},
	{"abc", "abc"},
	{"\x01\xff\r", "\x01\xff\xff\r\n"},
	{"\xff", "\xff\xff"},
	{"\xffab", "\xff\xffab"},
	{"a\xffb", "a\xff\xffb"},
	{"ab\xff", "ab\xff\xff"},
	{"\xff\xff", "\xff\xff\xff\xff"},
	{"\r", "\r\n"},
	{"\rab", "\r\nab"},
	{"a\rb", "a\r\nb"},
	{"ab\r", "ab\r\n"},
	{"\r\r", "\r\n\r\n"},
	{"\r\n", "\r\n\n"},
	{"\r\x00", "\r\n\x00"},
	{"\r\xff", "\r\n\xff\xff"},
	{"\xff\r", "\xff\xff\r\n"},
	{"\n\x00\xfe\x0c\x0e", "\n\x00\xfe\x0c\x0e"},
}

// readCases are octets, the data with which they begin, and how many octets it takes, written out by hand.
var readCases = []struct {
	in, data string
	n        int
}{
	{"", "", 0},
	{"a", "a", 1},
	{"\r\x00\n\xff\x01", "\r\n", 3},
	{"\r", "\r", 1},
	{"\r\n", "\r", 2},
	{"\r\x00", "\r", 2},
	{"\ra", "\ra", 2},
	{"\r\r", "\r\r", 2},
	{"\r\r\n", "\r\r", 3},
	{"\r\n\n", "\r\n", 3},
	{"\r\n\x00", "\r\x00", 3},
	{"\r\x00\n", "\r\n", 3},
	{"\r\x00\x00", "\r\x00", 3},
	{"a\rb", "a\rb", 3},
	{"a\r\nb", "a\rb", 4},
	{"ab\r", "ab\r", 3},
	{"\r\xff\xff", "\r\xff", 3},
	{"\r\xff", "\r", 1},
	{"\r\xff\n", "\r", 1},
	{"\r\xff\xfb\x01", "\r", 1},
	{"\r\n\xff", "\r", 2},
	{"\xff", "", 0},
	{"\xffa", "", 0},
	{"\xff\r", "", 0},
	{"\xff\x00", "", 0},
	{"\xff\xff", "\xff", 2},
	{"\xff\xff\xff", "\xff", 2},
	{"\xff\xff\xff\xff", "\xff\xff", 4},
	{"\xff\xff\xff\xfaa", "\xff", 2},
	{"\xff\xff\r", "\xff\r", 3},
	{"\xff\xff\n", "\xff\n", 3},
	{"a\xff\xffb", "a\xffb", 4},
	{"a\xffb", "a", 1},
	{"ab\xff", "ab", 2},
	{"ab\xff\xff", "ab\xff", 4},
	{"\n\x00", "\n\x00", 2},
	{"\x00\xfe", "\x00\xfe", 2},
}

func wantLaid(t *testing.T, data, laid string) {
	t.Helper()
	b := []byte(data)
	if got := nvt.Lay(b); string(got) != laid {
		t.Errorf("Lay of %q: %q, want %q", data, got, laid)
	}
	if n := nvt.Size(b); n != len(laid) {
		t.Errorf("Size of %q: %d, want %d", data, n, len(laid))
	}
	if plain := nvt.Plain(b); plain != (data == laid) {
		t.Errorf("Plain of %q: %v", data, plain)
	}
	if string(b) != data {
		t.Errorf("%q was changed to %q", data, b)
	}
}

func wantRead(t *testing.T, in, data string, n int) {
	t.Helper()
	b := []byte(in)
	if got, took := nvt.Read(b); string(got) != data || took != n {
		t.Errorf("Read of %q: %q, %d; want %q, %d", in, got, took, data, n)
	}
	if string(b) != in {
		t.Errorf("%q was changed to %q", in, b)
	}
}

// everyShort tells each text of up to five octets of those on which reading and laying hang, and their neighbours.
func everyShort(tell func(s string)) {
	var grow func(s []byte)
	grow = func(s []byte) {
		tell(string(s))
		if len(s) < 5 {
			for _, c := range []byte{0, 1, 10, 13, 254, 255} {
				grow(append(bytes.Clone(s), c))
			}
		}
	}
	grow(nil)
}

// laidByRule is how a text lies, told by two replacements instead of octet by octet.
func laidByRule(s string) string {
	return strings.ReplaceAll(strings.ReplaceAll(s, "\xff", "\xff\xff"), "\r", "\r\n")
}

// readByRule is the data with which a text begins, and how many octets it takes, told from the text's front alone.
func readByRule(s string) (string, int) {
	for _, r := range []struct{ front, data string }{
		{"\xff\xff", "\xff"}, {"\xff", ""}, {"\r\n", "\r"}, {"\r\x00", "\r"}, {"\r", "\r"},
	} {
		rest, ok := strings.CutPrefix(s, r.front)
		if ok && r.data == "" {
			return "", 0
		}
		if ok {
			data, n := readByRule(rest)
			return r.data + data, len(r.front) + n
		}
	}
	if s == "" {
		return "", 0
	}
	data, n := readByRule(s[1:])
	return s[:1] + data, 1 + n
}

// P2.1: by hand, the chapter's example among them.
func TestLay(t *testing.T) {
	for _, c := range laidCases {
		wantLaid(t, c.data, c.laid)
	}
}

// P2.1: each octet alone.
func TestLayOctet(t *testing.T) {
	for i := range 256 {
		one := string([]byte{byte(i)})
		switch i {
		case 255:
			wantLaid(t, one, "\xff\xff")
		case 13:
			wantLaid(t, one, "\r\n")
		default:
			wantLaid(t, one, one)
		}
	}
}

// P2.1: each short text, by the other rule.
func TestLayShort(t *testing.T) {
	everyShort(func(s string) { wantLaid(t, s, laidByRule(s)) })
}

// P2.1 and P2.2: nothing at all, and no list at all.
func TestNothing(t *testing.T) {
	for _, b := range [][]byte{nil, {}, make([]byte, 0, 9)} {
		if got := nvt.Lay(b); len(got) != 0 {
			t.Errorf("Lay: %q", got)
		}
		if n := nvt.Size(b); n != 0 {
			t.Errorf("Size: %d", n)
		}
		if !nvt.Plain(b) {
			t.Error("Plain: false")
		}
		if got, n := nvt.Read(b); len(got) != 0 || n != 0 {
			t.Errorf("Read: %q, %d", got, n)
		}
	}
}

// P2.1: Plain looks at every place.
func TestPlain(t *testing.T) {
	all := []byte(strings.Repeat("\n\x00\xfe", 100))
	if !nvt.Plain(all) {
		t.Error("300 octets that lie as they are: not plain")
	}
	for i := range all {
		for _, c := range []byte{255, 13} {
			b := bytes.Clone(all)
			b[i] = c
			if nvt.Plain(b) || nvt.Size(b) != len(b)+1 {
				t.Errorf("%d at %d: plain, or of a wrong size", c, i)
			}
		}
	}
}

// P2.2: by hand, the chapter's examples among them.
func TestRead(t *testing.T) {
	for _, c := range readCases {
		wantRead(t, c.in, c.data, c.n)
	}
}

// P2.2: each octet alone, and each behind a 13 and behind a 255.
func TestReadOctet(t *testing.T) {
	for i := range 256 {
		one := string([]byte{byte(i)})
		switch i {
		case 255:
			wantRead(t, one, "", 0)
			wantRead(t, "\r"+one, "\r", 1)
			wantRead(t, "\xff"+one, "\xff", 2)
		case 0, 10:
			wantRead(t, one, one, 1)
			wantRead(t, "\r"+one, "\r", 2)
			wantRead(t, "\xff"+one, "", 0)
		default:
			wantRead(t, one, one, 1)
			wantRead(t, "\r"+one, "\r"+one, 2)
			wantRead(t, "\xff"+one, "", 0)
		}
	}
}

// P2.2: each short text, by the other rule.
func TestReadShort(t *testing.T) {
	everyShort(func(s string) {
		data, n := readByRule(s)
		wantRead(t, s, data, n)
	})
}

// P2.3: what was laid is read, whole, up to a command too.
func TestLaidIsRead(t *testing.T) {
	everyShort(func(s string) {
		laid := string(nvt.Lay([]byte(s)))
		wantRead(t, laid, s, len(laid))
		wantRead(t, laid+"\xff\xf4a", s, len(laid))
	})
	long := make([]byte, 70000)
	for i := range long {
		long[i] = byte(i*i>>3 + i)
	}
	laid := string(nvt.Lay(long))
	wantRead(t, laid, string(long), len(laid))
	wantLaid(t, string(long), laidByRule(string(long)))
}

// P2.3: wherever a text is cut, its two pieces are laid as one.
func TestLaidInPieces(t *testing.T) {
	everyShort(func(s string) {
		whole := nvt.Lay([]byte(s))
		for at := range len(s) + 1 {
			front, back := []byte(s[:at]), []byte(s[at:])
			if got := append(nvt.Lay(front), nvt.Lay(back)...); !bytes.Equal(got, whole) {
				t.Errorf("%q cut at %d: %q, want %q", s, at, got, whole)
			}
			if n := nvt.Size(front) + nvt.Size(back); n != len(whole) {
				t.Errorf("%q cut at %d: size %d, want %d", s, at, n, len(whole))
			}
			if (nvt.Plain(front) && nvt.Plain(back)) != nvt.Plain([]byte(s)) {
				t.Errorf("%q cut at %d: plain otherwise than whole", s, at)
			}
		}
	})
}

// wantApart writes over each list, to the end of its memory, and looks whether another one changes.
func wantApart(t *testing.T, call string, lists ...[]byte) {
	t.Helper()
	for i, b := range lists {
		var before [][]byte
		for _, o := range lists {
			before = append(before, bytes.Clone(o[:cap(o)]))
		}
		whole := b[:cap(b)]
		for at := range whole {
			whole[at] ^= 255
		}
		for j, o := range lists {
			if i != j && !bytes.Equal(o[:cap(o)], before[j]) {
				t.Errorf("%s: lists %d and %d have a part in common", call, i, j)
			}
		}
	}
}

// P2.1 and P2.2: what is answered has no part in common with what was handed in, spare memory behind it included.
func TestApart(t *testing.T) {
	for _, s := range []string{"", "a", "abc", "\xff", "a\rb", "\r\n", "\xff\xff", "a\xff\xfb\x01", "ab\r"} {
		b := append(make([]byte, 0, 64), s...)
		wantApart(t, "Lay", b, nvt.Lay(b), nvt.Lay(b))
		b = append(make([]byte, 0, 64), s...)
		one, _ := nvt.Read(b)
		two, _ := nvt.Read(b)
		wantApart(t, "Read", b, one, two)
	}
}
