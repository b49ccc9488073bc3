package mask_test

import (
	"bytes"
	"slices"
	"testing"

	"linnet/api"
	"linnet/mask"
)

var both = []bool{false, true}

// edges are the first and the last key of an octet, and of the mask.
var edges = []byte{0, 7, 8, 127, 128, 247, 248, 255}

// cases are keys, rising, and the octets of their mask without those that are 0 at its end, written out by hand.
var cases = []struct {
	keys, put []byte
}{
	{nil, nil},
	{[]byte{0}, []byte{128}},
	{[]byte{1}, []byte{64}},
	{[]byte{2}, []byte{32}},
	{[]byte{3}, []byte{16}},
	{[]byte{4}, []byte{8}},
	{[]byte{5}, []byte{4}},
	{[]byte{6}, []byte{2}},
	{[]byte{7}, []byte{1}},
	{[]byte{8}, []byte{0, 128}},
	{[]byte{15}, []byte{0, 1}},
	{[]byte{0, 9}, []byte{128, 64}},
	{[]byte{0, 7}, []byte{129}},
	{[]byte{7, 8}, []byte{1, 128}},
	{[]byte{0, 1, 2, 3, 4, 5, 6, 7}, []byte{255}},
	{[]byte{8, 9, 10, 11, 12, 13, 14, 15}, []byte{0, 255}},
	{[]byte{3, 9, 200}, append(append([]byte{16, 64}, make([]byte, 23)...), 128)},
	{[]byte{10, 13, 127}, append(append([]byte{0, 36}, make([]byte, 13)...), 1)},
	{[]byte{127}, append(make([]byte, 15), 1)},
	{[]byte{128}, append(make([]byte, 16), 128)},
	{[]byte{127, 128}, append(make([]byte, 15), 1, 128)},
	{[]byte{247}, append(make([]byte, 30), 1)},
	{[]byte{248}, append(make([]byte, 31), 128)},
	{[]byte{247, 248}, append(make([]byte, 30), 1, 128)},
	{[]byte{255}, append(make([]byte, 31), 1)},
	{[]byte{0, 255}, append(append([]byte{128}, make([]byte, 30)...), 1)},
	{[]byte{248, 249, 250, 251, 252, 253, 254, 255}, append(make([]byte, 31), 255)},
	{allKeys(), bytes.Repeat([]byte{255}, 32)},
}

func allKeys() []byte {
	l := make([]byte, 256)
	for i := range l {
		l[i] = byte(i)
	}
	return l
}

// chance is octets that a seed makes.
func chance(seed, n int) []byte {
	x := uint32(seed)*2654435761 + 12345
	l := make([]byte, n)
	for i := range l {
		x = x*1664525 + 1013904223
		l[i] = byte(x >> 24)
	}
	return l
}

// whole is a mask of octets, and of octets 0 behind them.
func whole(b []byte) api.Mask {
	var m api.Mask
	for i, x := range b {
		m[i] = x
	}
	return m
}

// trimmed is octets but for those that are 0 at their end.
func trimmed(b []byte) []byte {
	for len(b) > 0 && b[len(b)-1] == 0 {
		b = b[:len(b)-1]
	}
	return b
}

// masks are some: those of the cases, those that lack one key, some with octets 0 here and there, and some by chance.
func masks() []api.Mask {
	var l []api.Mask
	for _, c := range cases {
		l = append(l, whole(c.put))
	}
	for _, c := range edges {
		m := whole(bytes.Repeat([]byte{255}, 32))
		m[c/8] -= 1 << (7 - c%8)
		l = append(l, m)
	}
	for seed := range 40 {
		m := whole(chance(seed, 32))
		l = append(l, m)
		for i := range m {
			if seed>>(i%6)&1 == 0 {
				m[i] = 0
			}
		}
		l = append(l, m)
	}
	for n := range 33 {
		l = append(l, whole(chance(n, n)))
	}
	return l
}

// keysByRule is a mask's keys, by dividing its octets.
func keysByRule(m api.Mask) []byte {
	var l []byte
	for i, x := range m {
		for bit, rest := 0, int(x); bit < 8; bit, rest = bit+1, rest*2%256 {
			if rest >= 128 {
				l = append(l, byte(8*i+bit))
			}
		}
	}
	return l
}

// wantMask holds all that is asked of a mask against what it is.
func wantMask(t *testing.T, m api.Mask, keys, put []byte) {
	t.Helper()
	before := m
	if got := mask.Keys(m); !bytes.Equal(got, keys) {
		t.Fatalf("Keys of %v: %v; want %v", m, got, keys)
	}
	for c := range 256 {
		if got, want := mask.Has(m, byte(c)), bytes.IndexByte(keys, byte(c)) >= 0; got != want {
			t.Fatalf("Has of %v and %d: %v", m, c, got)
		}
	}
	if got := mask.Put(m); !bytes.Equal(got, put) {
		t.Fatalf("Put of %v: %v; want %v", m, got, put)
	}
	if m != before {
		t.Fatalf("%v was changed to %v", before, m)
	}
}

func wantOf(t *testing.T, keys []byte, want api.Mask) {
	t.Helper()
	before := slices.Clone(keys)
	if got := mask.Of(keys...); got != want {
		t.Fatalf("Of %v: %v; want %v", keys, got, want)
	}
	if !bytes.Equal(keys, before) {
		t.Fatalf("Of %v changed them to %v", before, keys)
	}
}

func wantGot(t *testing.T, b []byte, want api.Mask) {
	t.Helper()
	before := slices.Clone(b)
	if got, e := mask.Get(b); got != want || e != api.OK {
		t.Fatalf("Get of %v: %v, %d; want %v", b, got, e, want)
	}
	if !bytes.Equal(b, before) {
		t.Fatalf("Get of %v changed it to %v", before, b)
	}
}

// P10.1, P10.2: the chapter's examples.
func TestExamples(t *testing.T) {
	if m := mask.Of(0, 9); m != (api.Mask{128, 64}) || !bytes.Equal(mask.Put(m), []byte{128, 64}) {
		t.Errorf("Of 0 and 9: %v, and put %v", m, mask.Put(m))
	}
	m, e := mask.Get([]byte{0, 1})
	if e != api.OK || !bytes.Equal(mask.Keys(m), []byte{15}) {
		t.Errorf("Get of 0 1: %v, %d", m, e)
	}
	if m, e := mask.Get(make([]byte, 33)); e != api.ErrLong || m != (api.Mask{}) {
		t.Errorf("Get of 33 octets: %v, %d", m, e)
	}
}

// P10.1, P10.2: keys and octets that are written out.
func TestCases(t *testing.T) {
	for _, c := range cases {
		m := whole(c.put)
		wantOf(t, c.keys, m)
		wantMask(t, m, c.keys, c.put)
		wantGot(t, c.put, m)
	}
}

// P10.1: each key alone, by its octet and by its bit.
func TestEachKey(t *testing.T) {
	for n := range 256 {
		c := byte(n)
		octet, bit := n/8, []byte{128, 64, 32, 16, 8, 4, 2, 1}[n%8]
		var want api.Mask
		want[octet] = bit
		wantOf(t, []byte{c}, want)
		wantMask(t, want, []byte{c}, append(make([]byte, octet), bit))
		if got := mask.With(api.Mask{}, c, true); got != want {
			t.Fatalf("With %d: %v", n, got)
		}
	}
}

// P10.1: no key, whether the list is nil or empty.
func TestOfNone(t *testing.T) {
	if m := mask.Of(); m != (api.Mask{}) {
		t.Errorf("Of no key: %v", m)
	}
	wantOf(t, nil, api.Mask{})
	wantOf(t, []byte{}, api.Mask{})
	wantMask(t, api.Mask{}, nil, nil)
}

// P10.1: a key that is there twice, or often, is there once.
func TestOfTwice(t *testing.T) {
	for n := range 256 {
		c := byte(n)
		one := mask.Of(c)
		wantOf(t, []byte{c, c}, one)
		wantOf(t, bytes.Repeat([]byte{c}, 257), one)
		wantOf(t, []byte{c, 9, c}, mask.Of(9, c))
	}
	wantOf(t, append(allKeys(), allKeys()...), whole(bytes.Repeat([]byte{255}, 32)))
}

// P10.1: all that is asked of some masks, by a rule that is not the program's.
func TestMasks(t *testing.T) {
	for _, m := range masks() {
		wantMask(t, m, keysByRule(m), trimmed(slices.Clone(m[:])))
	}
}

// P10.1: with a key, or without, that it has, or has not; all others stay.
func TestWith(t *testing.T) {
	for _, m := range masks() {
		before := m
		for n := range 256 {
			c := byte(n)
			for _, on := range both {
				want := keysByRule(m)
				if i, has := slices.BinarySearch(want, c); has && !on {
					want = slices.Delete(want, i, i+1)
				} else if !has && on {
					want = slices.Insert(want, i, c)
				}
				got := mask.With(m, c, on)
				if mask.Has(got, c) != on || !bytes.Equal(keysByRule(got), want) {
					t.Fatalf("With of %v, %d, %v: %v", m, n, on, got)
				}
				if mask.Has(m, c) == on && got != m {
					t.Fatalf("With of %v, %d, %v is another one: %v", m, n, on, got)
				}
				if again := mask.With(got, c, on); again != got {
					t.Fatalf("With of %v, %d, %v, again: %v", m, n, on, again)
				}
				if back := mask.With(got, c, mask.Has(m, c)); back != m {
					t.Fatalf("With of %v, %d, %v, and back: %v", m, n, on, back)
				}
			}
		}
		if m != before {
			t.Fatalf("With changed %v to %v", before, m)
		}
	}
}

// P10.1: the edges, on and not on, of the mask that has none and of the one that has all.
func TestWithEdges(t *testing.T) {
	none, all := api.Mask{}, whole(bytes.Repeat([]byte{255}, 32))
	for _, c := range edges {
		if mask.With(none, c, false) != none || mask.With(all, c, true) != all {
			t.Errorf("With of %d changed what was so already", c)
		}
		one, lacks := mask.With(none, c, true), mask.With(all, c, false)
		if got := mask.Keys(one); !bytes.Equal(got, []byte{c}) {
			t.Errorf("With of %d: %v", c, got)
		}
		if got := mask.Keys(lacks); len(got) != 255 || bytes.IndexByte(got, c) >= 0 || !slices.IsSorted(got) {
			t.Errorf("without %d: %v", c, got)
		}
		if mask.With(one, c, false) != none || mask.With(lacks, c, true) != all {
			t.Errorf("With of %d does not lead back", c)
		}
	}
}

// P10.1, P10.2: what is answered is anew each time.
func TestAnew(t *testing.T) {
	m := whole(chance(5, 32))
	keys, put := keysByRule(m), trimmed(slices.Clone(m[:]))
	for range 2 {
		k, p := mask.Keys(m), mask.Put(m)
		clear(k)
		clear(p)
		wantMask(t, m, keys, put)
	}
	b := chance(6, 32)
	got, _ := mask.Get(b)
	before := got
	clear(b)
	if got != before || got != whole(chance(6, 32)) {
		t.Errorf("the mask is %v behind a change of the octets", got)
	}
}

// P10.2: octets 0 between others stay, those at the end go.
func TestPut(t *testing.T) {
	for _, c := range []struct{ octets, put []byte }{
		{nil, nil},
		{[]byte{0, 0, 0, 7}, []byte{0, 0, 0, 7}},
		{[]byte{1, 0, 0, 2}, []byte{1, 0, 0, 2}},
		{[]byte{0, 1, 0, 255, 0, 0}, []byte{0, 1, 0, 255}},
		{append(make([]byte, 30), 1), append(make([]byte, 30), 1)},
		{append(make([]byte, 30), 1, 0), append(make([]byte, 30), 1)},
		{append(make([]byte, 31), 128), append(make([]byte, 31), 128)},
		{append(make([]byte, 30), 1, 128), append(make([]byte, 30), 1, 128)},
		{make([]byte, 32), nil},
	} {
		if got := mask.Put(whole(c.octets)); !bytes.Equal(got, c.put) {
			t.Errorf("Put of %v: %v", c.octets, got)
		}
	}
	for n := range 32 {
		for _, x := range []byte{1, 2, 127, 128, 255} {
			var m api.Mask
			m[n] = x
			if got := mask.Put(m); len(got) != n+1 || got[n] != x || len(trimmed(got[:n])) != 0 {
				t.Errorf("Put of %v: %v", m, got)
			}
		}
	}
}

// P10.2: up to 32 octets, also such as are 0 at their end.
func TestGet(t *testing.T) {
	wantGot(t, nil, api.Mask{})
	wantGot(t, []byte{}, api.Mask{})
	for x := range 256 {
		wantGot(t, []byte{byte(x)}, api.Mask{byte(x)})
	}
	for n := range 33 {
		b := chance(n, n)
		wantGot(t, b, whole(b))
		wantGot(t, make([]byte, n), api.Mask{})
		wantGot(t, bytes.Repeat([]byte{255}, n), whole(bytes.Repeat([]byte{255}, n)))
		if n > 0 {
			wantGot(t, append(make([]byte, n-1), 3), whole(append(make([]byte, n-1), 3)))
			wantGot(t, append([]byte{9}, make([]byte, n-1)...), api.Mask{9})
		}
	}
	// What stands behind a list's length is not of it.
	wantGot(t, bytes.Repeat([]byte{255}, 40)[:2], api.Mask{255, 255})
	wantGot(t, bytes.Repeat([]byte{255}, 40)[:32], whole(bytes.Repeat([]byte{255}, 32)))
}

// P10.2: more than 32 octets, whatever they are, those beyond among them.
func TestGetLong(t *testing.T) {
	for _, n := range []int{33, 34, 63, 64, 65, 255, 256, 257, 288, 512, 513, 65536, 65537, 1 << 20} {
		for _, b := range [][]byte{
			make([]byte, n),
			chance(n, n),
			bytes.Repeat([]byte{255}, n),
			append([]byte{128, 64}, make([]byte, n-2)...),
			append(bytes.Repeat([]byte{255}, 32), make([]byte, n-32)...),
			append(make([]byte, n-1), 1),
		} {
			before := slices.Clone(b)
			if m, e := mask.Get(b); m != (api.Mask{}) || e != api.ErrLong {
				t.Fatalf("Get of %d octets: %v, %d", n, m, e)
			}
			if !bytes.Equal(b, before) {
				t.Fatalf("Get of %d octets changed them", n)
			}
		}
	}
}

// P10.3: what was put is got.
func TestPutGot(t *testing.T) {
	for _, m := range masks() {
		wantGot(t, mask.Put(m), m)
	}
}

// P10.3: what is got, put, has no 0 at its end, and is what it was got of but for these.
func TestGotPut(t *testing.T) {
	for n := range 33 {
		for noughts := range 33 - n {
			b := append(chance(n, n), make([]byte, noughts)...)
			m, e := mask.Get(b)
			if e != api.OK {
				t.Fatalf("Get of %v: %d", b, e)
			}
			put := mask.Put(m)
			if len(put) > 0 && put[len(put)-1] == 0 || !bytes.Equal(put, trimmed(b)) {
				t.Fatalf("Get of %v, put: %v", b, put)
			}
		}
	}
}

// shuffled is keys in an order that a seed makes.
func shuffled(keys []byte, seed int) []byte {
	l := slices.Clone(keys)
	for i, x := range chance(seed, len(l)) {
		j := int(x) % (i + 1)
		l[i], l[j] = l[j], l[i]
	}
	return l
}

// P10.3: in whatever order keys are put in, at once or one by one, the mask is the same; and its keys make it again.
func TestOrder(t *testing.T) {
	for _, m := range masks() {
		keys := mask.Keys(m)
		wantOf(t, keys, m)
		back := slices.Clone(keys)
		slices.Reverse(back)
		for _, l := range [][]byte{keys, back, shuffled(keys, 1), shuffled(keys, 2), shuffled(append(slices.Clone(keys), keys...), 3)} {
			wantOf(t, l, m)
			var one api.Mask
			for _, c := range l {
				one = mask.With(one, c, true)
			}
			if one != m {
				t.Fatalf("%v one by one: %v; want %v", l, one, m)
			}
			for _, c := range l {
				one = mask.With(one, c, false)
			}
			if one != (api.Mask{}) {
				t.Fatalf("%v put in and out: %v", l, one)
			}
		}
	}
}

// P10.3: each two keys, in both orders.
func TestTwoKeys(t *testing.T) {
	for a := range 256 {
		for b := range 256 {
			m := mask.Of(byte(a), byte(b))
			if m != mask.Of(byte(b), byte(a)) || m != mask.With(mask.Of(byte(a)), byte(b), true) {
				t.Fatalf("%d and %d: %v", a, b, m)
			}
			if !bytes.Equal(mask.Keys(m), slices.Compact([]byte{byte(min(a, b)), byte(max(a, b))})) {
				t.Fatalf("%d and %d: %v", a, b, mask.Keys(m))
			}
		}
	}
}
