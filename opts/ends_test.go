package opts_test

import (
	"fmt"
	"testing"

	"linnet/api"
	"linnet/item"
	"linnet/opts"
	"linnet/reader"
)

// ends are two ends: the options of each, and what each has said that has not come yet, as it lies, the first one first.
type ends struct {
	o   [2]api.Opts
	way [2]string
}

// verbSize is how many octets a verb has as it lies.
const verbSize = 3

func newEnds(a, b api.Opts) ends {
	return ends{o: [2]api.Opts{a, b}}
}

// String keeps what is under way readable in a failed test's words.
func (s ends) String() string {
	return fmt.Sprintf("%v, under way %v, %v", s.o, []byte(s.way[0]), []byte(s.way[1]))
}

// moved is s, with who having come to o, and having said l; and how much that was.
func (s ends) moved(t *testing.T, who int, o api.Opts, l []api.Item) (ends, int) {
	t.Helper()
	octets, e := item.Put(l...)
	if e != api.OK || len(l) > 1 || len(octets) != verbSize*len(l) {
		t.Fatalf("%v: %d says %v", s, who, l)
	}
	s.o[who] = o
	s.way[who] += string(octets)
	return s, len(l)
}

// ask is s, with who asked; how much was said, and whether it was not refused.
func (s ends) ask(t *testing.T, who int, him bool, place int, on bool) (ends, int, bool) {
	t.Helper()
	o, l, e := opts.Ask(s.o[who], him, place, on)
	if e != api.OK && (o != s.o[who] || len(l) != 0) {
		t.Fatalf("%v: refused, with %v, %v", s, o, l)
	}
	next, said := s.moved(t, who, o, l)
	return next, said, e == api.OK
}

// come is s, when the first verb of what the other end said has come to who; and how much was said.
func (s ends) come(t *testing.T, who int) (ends, int) {
	t.Helper()
	way := &s.way[1-who]
	_, heard, e := reader.Feed(api.Reader{}, []byte((*way)[:verbSize]))
	if e != api.OK || len(heard) != 1 {
		t.Fatalf("%v: what comes is %v, %d", s, heard, e)
	}
	*way = (*way)[verbSize:]
	o, l, e := opts.Got(s.o[who], heard[0].A, heard[0].B)
	if e != api.OK {
		t.Fatalf("%v: an end that keeps to the method was told off: %d", s, e)
	}
	return s.moved(t, who, o, l)
}

func (s ends) resting() bool {
	return s.way[0] == "" && s.way[1] == ""
}

// wantRight looks that both may be, that nothing is on that one of them may not have, and that at rest each option of the one is where the other one has it.
func wantRight(t *testing.T, s ends) {
	t.Helper()
	for who := range 2 {
		us, him := s.o[who], s.o[1-who]
		if e := opts.Check(us); e != api.OK {
			t.Fatalf("%v: %d may not be: %d", s, who, e)
		}
		for place := range 4 {
			a, b := us.Us[place], him.Him[place]
			may := us.MayUs[place] && him.MayHim[place]
			if !may && (a == yes || b == yes) {
				t.Fatalf("%v: %d is on of %d, and may not be", s, place, who)
			}
			if s.resting() && (a != b || a != no && a != yes) {
				t.Fatalf("%v: at rest %d of %d is at %d and %d", s, place, who, a, b)
			}
		}
	}
}

// mostKnown bounds what is gone through, so that ends that say more and more are found out.
const mostKnown = 100000

// walk is all that two ends can come to, one option of theirs asked for on and off, of both sides, with all that is said coming whenever; each with the most that may have been said there beyond twice as much as was asked for and not refused.
func walk(t *testing.T, from ends, place int) map[ends]int {
	t.Helper()
	most := map[ends]int{from: 0}
	left := []ends{from}
	reach := func(s ends, n int) {
		if n > 0 {
			t.Fatalf("%d said beyond twice as much as was asked, at %v", n, s)
		}
		if before, ok := most[s]; !ok || before < n {
			most[s] = n
			left = append(left, s)
		}
		if len(most) > mostKnown {
			t.Fatalf("more and more is under way: %v", s)
		}
	}
	for len(left) > 0 {
		s := left[0]
		left = left[1:]
		for who := range 2 {
			for _, him := range both {
				for _, on := range both {
					if next, said, ok := s.ask(t, who, him, place, on); ok {
						reach(next, most[s]+said-2)
					}
				}
			}
			if s.way[1-who] != "" {
				next, said := s.come(t, who)
				reach(next, most[s]+said)
			}
		}
	}
	return most
}

// wantEnd looks that from s on, when no more is asked, all comes, in whatever order; known are those of which that was seen, or is being looked at (false).
func wantEnd(t *testing.T, s ends, known map[ends]bool) {
	t.Helper()
	seen, ok := known[s]
	if seen {
		return
	}
	if ok {
		t.Fatalf("what is said goes round: %v", s)
	}
	known[s] = false
	for who := range 2 {
		if s.way[1-who] != "" {
			next, _ := s.come(t, who)
			wantEnd(t, next, known)
		}
	}
	known[s] = true
}

// P6.4: two ends, in all that they can come to with one option, asked for of one side and of the other.
func TestEnds(t *testing.T) {
	for n := range 4 * 16 {
		place := n / 16
		var mayUs, mayHim [2][4]bool
		for who := range 2 {
			mayUs[who][place] = n>>who&1 != 0
			mayHim[who][place] = n>>(2+who)&1 != 0
		}
		from := newEnds(opts.New(mayUs[0], mayHim[0]), opts.New(mayUs[1], mayHim[1]))
		known := map[ends]bool{}
		found := walk(t, from, place)
		for s := range found {
			wantRight(t, s)
			wantEnd(t, s, known)
		}
		if _, ok := found[ends{o: from.withAllOn(place)}]; !ok {
			t.Errorf("%v: what may be never is", from.o)
		}
	}
}

// withAllOn is the options of both, with one that is on of each side where both may have it.
func (s ends) withAllOn(place int) [2]api.Opts {
	for who := range 2 {
		us, him := &s.o[who], &s.o[1-who]
		if us.MayUs[place] && him.MayHim[place] {
			us.Us[place], him.Him[place] = yes, yes
		}
	}
	return s.o
}

// story is what two ends, a and b, do one behind the other, of LineO of a's side: a is asked for it on (a), or off (oa), b is (b, ob), or the first of what was said comes to one (ca, cb). Then so much was said, and both have it there.
type story struct {
	mayA, mayB bool
	does       []string
	said       int
	at         int
}

var stories = []story{
	{true, true, []string{"a", "cb", "ca"}, 2, yes},
	{true, true, []string{"b", "ca", "cb"}, 2, yes},
	{true, false, []string{"a", "cb", "ca"}, 2, no},
	{false, true, []string{"b", "ca", "cb"}, 2, no},
	{false, true, []string{"a", "a"}, 0, no},
	{true, false, []string{"b", "b"}, 0, no},
	// Both ask at once: it is on, and neither answers.
	{true, true, []string{"a", "b", "ca", "cb"}, 2, yes},
	{true, true, []string{"a", "b", "cb", "ca"}, 2, yes},
	{true, true, []string{"a", "cb", "ca", "ob", "ca", "cb"}, 4, no},
	{true, true, []string{"a", "cb", "ca", "oa", "ob", "ca", "cb"}, 4, no},
	{true, true, []string{"a", "oa", "cb", "ca", "cb", "ca"}, 4, no},
	{true, false, []string{"a", "oa", "cb", "ca"}, 2, no},
	{true, true, []string{"a", "oa", "a", "cb", "ca"}, 2, yes},
	{true, true, []string{"a", "cb", "ca", "oa", "a", "cb", "ca", "cb", "ca"}, 6, yes},
	{true, true, []string{"a", "cb", "ob", "ca", "ca", "cb"}, 4, no},
	{true, true, []string{"a", "b", "oa", "ca", "cb", "cb", "ca"}, 4, no},
}

func (s ends) does(t *testing.T, word string) (ends, int) {
	t.Helper()
	who := int(word[len(word)-1] - 'a')
	if word[0] == 'c' {
		return s.come(t, who)
	}
	next, said, _ := s.ask(t, who, who == 1, api.LineO, word[0] != 'o')
	return next, said
}

// P6.4: by hand, in different orders.
func TestStories(t *testing.T) {
	for _, c := range stories {
		a := with(opts.New(none, none), false, api.LineO, no, c.mayA)
		b := with(opts.New(none, none), true, api.LineO, no, c.mayB)
		s, all := newEnds(a, b), 0
		for _, word := range c.does {
			next, said := s.does(t, word)
			s, all = next, all+said
			wantRight(t, s)
		}
		if !s.resting() || all != c.said || s.o[0].Us[api.LineO] != c.at || s.o[1].Him[api.LineO] != c.at {
			t.Errorf("%v: %v, %d said; want %d, %d said", c.does, s, all, c.at, c.said)
		}
	}
}

// picks are numbers that look like chance, and are the same each time.
func picks(seed uint32) func(below int) int {
	return func(below int) int {
		seed = seed*1664525 + 1013904223
		return int(seed>>8) % below
	}
}

func pickMays(pick func(int) int) [4]bool {
	may := all
	for place := range may {
		may[place] = pick(4) > 0
	}
	return may
}

// wantRest lets all come that is under way, and looks at where the ends are then.
func wantRest(t *testing.T, s ends, pick func(int) int, all, asks int) {
	t.Helper()
	for !s.resting() && all <= 2*asks {
		who, said := pick(2), 0
		if s.way[1-who] == "" {
			who = 1 - who
		}
		s, said = s.come(t, who)
		all += said
	}
	if all > 2*asks {
		t.Fatalf("%d said of %d asked", all, asks)
	}
	wantRight(t, s)
}

// P6.4: long rows of asks, for all options of both sides, with what is said coming sooner or later.
func TestManyAsks(t *testing.T) {
	for seed := range 300 {
		pick := picks(uint32(seed))
		slow := 2 + seed%7
		s := newEnds(opts.New(pickMays(pick), pickMays(pick)), opts.New(pickMays(pick), pickMays(pick)))
		all, asks := 0, 0
		for range 400 {
			who, said := pick(2), 0
			if pick(slow) > 0 {
				asks++
				s, said, _ = s.ask(t, who, pick(2) == 0, pick(4), pick(2) == 0)
			} else if s.way[1-who] != "" {
				s, said = s.come(t, who)
			}
			all += said
			wantRight(t, s)
		}
		wantRest(t, s, pick, all, asks)
	}
}

// P6.4: whatever verb comes of whatever code, to options that may be: they stay such, and say no more than one verb, that may be.
func TestOneAnswer(t *testing.T) {
	for _, o := range grounds() {
		for _, verb := range verbs {
			for code := range 256 {
				next, l, _ := opts.Got(o, verb, code)
				if len(l) > 1 || opts.Check(next) != api.OK {
					t.Errorf("%d %d to %v: %v, %v", verb, code, o, next, l)
				}
				for _, x := range l {
					if item.Check(x) != api.OK || x.B != code {
						t.Errorf("%d %d to %v says %v", verb, code, o, x)
					}
				}
			}
		}
	}
}

// P6.4: of two ends that keep nothing but refuse, and give marks, none goes on answering the other.
func TestNoEcho(t *testing.T) {
	for code := range 256 {
		for _, verb := range verbs {
			o, l, _ := opts.Got(opts.New(none, none), verb, code)
			for _, x := range l {
				if _, back, _ := opts.Got(o, x.A, x.B); len(back) != 0 {
					t.Errorf("%d %d is answered by %v, and that by %v", verb, code, x, back)
				}
			}
		}
	}
}
