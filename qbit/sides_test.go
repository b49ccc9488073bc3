package qbit_test

import (
	"testing"

	"linnet/api"
	"linnet/qbit"
)

// sides are two sides of one option: where each has it, and what each has said that has not come yet, the first one first.
type sides struct {
	at  [2]int
	way [2]string
}

// how is how two sides are: whether it may be on each, and whether one on which it may not is never asked for it on.
type how struct {
	may     [2]bool
	careful bool
}

func hows() []how {
	var l []how
	for _, a := range both {
		for _, b := range both {
			l = append(l, how{[2]bool{a, b}, false}, how{[2]bool{a, b}, true})
		}
	}
	return l
}

func (h how) mayAsk(who int, on bool) bool {
	return !on || !h.careful || h.may[who]
}

// moved is s, with who at a place, having said something, or nothing; and how much that was.
func (s sides) moved(who, to, say int) (sides, int) {
	s.at[who] = to
	switch say {
	case sayYes:
		s.way[who] += "y"
	case sayNo:
		s.way[who] += "n"
	default:
		return s, 0
	}
	return s, 1
}

// ask is s, asked; how much was said, and whether it was not refused.
func (s sides) ask(who int, on bool) (sides, int, bool) {
	to, say, e := qbit.Ask(s.at[who], on)
	next, said := s.moved(who, to, say)
	return next, said, e == api.OK
}

// come is s, when the first of what the other side said has come to who; and how much was said.
func (s sides) come(h how, who int) (sides, int) {
	way := &s.way[1-who]
	heard := (*way)[0] == 'y'
	*way = (*way)[1:]
	to, say, _ := qbit.Got(s.at[who], heard, h.may[who])
	return s.moved(who, to, say)
}

func (s sides) resting() bool {
	return s.way[0] == "" && s.way[1] == ""
}

// wantRight looks that they rest together, and that nothing is on that may not be.
func wantRight(t *testing.T, h how, s sides) {
	t.Helper()
	if s.resting() && (s.at[0] != s.at[1] || s.at[0] != no && s.at[0] != yes) {
		t.Fatalf("%v: at rest at %d and %d", h, s.at[0], s.at[1])
	}
	for who, q := range s.at {
		if h.careful && !h.may[who] && q != no {
			t.Fatalf("%v: %d is at %d", h, who, q)
		}
	}
}

// balance is all that two sides can come to, whatever they are asked and whatever comes when, each with the most that may have been said there beyond twice as much as was asked for and not refused.
func balance(t *testing.T, h how) map[sides]int {
	t.Helper()
	most := map[sides]int{{}: 0}
	left := []sides{{}}
	reach := func(s sides, n int) {
		if n > 0 {
			t.Fatalf("%v: %d said beyond twice as much as was asked, at %v", h, n, s)
		}
		if before, ok := most[s]; !ok || before < n {
			most[s] = n
			left = append(left, s)
		}
		if len(most) > 10000 {
			t.Fatalf("%v: more and more is under way: %v", h, s)
		}
	}
	for len(left) > 0 {
		s := left[0]
		left = left[1:]
		for who := range 2 {
			for _, on := range both {
				if next, said, ok := s.ask(who, on); ok && h.mayAsk(who, on) {
					reach(next, most[s]+said-2)
				}
			}
			if s.way[1-who] != "" {
				next, said := s.come(h, who)
				reach(next, most[s]+said)
			}
		}
	}
	return most
}

// wantEnd looks that from s on, when no more is asked, all comes, in whatever order; known are those of which that was seen, or is being looked at (false).
func wantEnd(t *testing.T, h how, s sides, known map[sides]bool) {
	t.Helper()
	seen, ok := known[s]
	if seen {
		return
	}
	if ok {
		t.Fatalf("%v: what is said goes round: %v", h, s)
	}
	known[s] = false
	for who := range 2 {
		if s.way[1-who] != "" {
			next, _ := s.come(h, who)
			wantEnd(t, h, next, known)
		}
	}
	known[s] = true
}

// P5.3: two sides, in all that they can come to.
func TestSides(t *testing.T) {
	for _, h := range hows() {
		known := map[sides]bool{}
		all := balance(t, h)
		for s := range all {
			wantRight(t, h, s)
			wantEnd(t, h, s, known)
		}
		for _, q := range []int{no, yes} {
			mayRest := q == no || !h.careful || h.may == [2]bool{true, true}
			if _, ok := all[sides{at: [2]int{q, q}}]; ok != mayRest {
				t.Errorf("%v: may they rest at %d: %v", h, q, ok)
			}
		}
	}
}

// story is what two sides, a and b, do one behind the other: a is asked for it on (a), or off (oa), or the first of what b said comes to it (ca); b likewise. Then so much was said, and both are there.
type story struct {
	may  [2]bool
	does []string
	said int
	at   int
}

var stories = []story{
	{[2]bool{true, true}, []string{"a", "cb", "ca"}, 2, yes},
	{[2]bool{true, true}, []string{"b", "ca", "cb"}, 2, yes},
	{[2]bool{true, false}, []string{"a", "cb", "ca"}, 2, no},
	{[2]bool{false, true}, []string{"b", "ca", "cb"}, 2, no},
	// Both ask at once: it is on, and neither answers.
	{[2]bool{true, true}, []string{"a", "b", "ca", "cb"}, 2, yes},
	{[2]bool{true, true}, []string{"a", "b", "cb", "ca"}, 2, yes},
	{[2]bool{true, true}, []string{"a", "cb", "ca", "ob", "ca", "cb"}, 4, no},
	{[2]bool{true, true}, []string{"a", "cb", "ca", "oa", "ob", "ca", "cb"}, 4, no},
	{[2]bool{true, true}, []string{"a", "oa", "cb", "ca", "cb", "ca"}, 4, no},
	{[2]bool{true, false}, []string{"a", "oa", "cb", "ca"}, 2, no},
	{[2]bool{true, true}, []string{"a", "oa", "a", "cb", "ca"}, 2, yes},
	{[2]bool{true, true}, []string{"a", "cb", "ca", "oa", "a", "cb", "ca", "cb", "ca"}, 6, yes},
	{[2]bool{true, true}, []string{"a", "cb", "ca", "oa", "a", "oa", "cb", "ca"}, 4, no},
	// What B agreed to, and no longer wants, is under way at once.
	{[2]bool{true, true}, []string{"a", "cb", "ob", "ca", "ca", "cb"}, 4, no},
	{[2]bool{true, true}, []string{"a", "b", "oa", "ca", "cb", "cb", "ca"}, 4, no},
}

func (s sides) does(h how, word string) (sides, int) {
	who := int(word[len(word)-1] - 'a')
	if word[0] == 'c' {
		return s.come(h, who)
	}
	next, said, _ := s.ask(who, word[0] != 'o')
	return next, said
}

// P5.3: by hand, in different orders.
func TestStories(t *testing.T) {
	for _, c := range stories {
		h := how{c.may, true}
		s, all := sides{}, 0
		for _, word := range c.does {
			next, said := s.does(h, word)
			s, all = next, all+said
		}
		if !s.resting() || all != c.said || s.at != [2]int{c.at, c.at} {
			t.Errorf("%v: %v, %d said; want %d, %d said", c.does, s, all, c.at, c.said)
		}
		wantRight(t, h, s)
	}
}

// picks are numbers that look like chance, and are the same each time.
func picks(seed uint32) func(below int) int {
	return func(below int) int {
		seed = seed*1664525 + 1013904223
		return int(seed>>8) % below
	}
}

// P5.3: long rows of asks, with what is said coming sooner or later.
func TestManyAsks(t *testing.T) {
	for seed := range 200 {
		for _, h := range hows() {
			pick := picks(uint32(seed))
			slow := 2 + seed%7
			s, all, asks := sides{}, 0, 0
			for range 300 {
				who, on, said := pick(2), pick(2) == 0, 0
				if pick(slow) > 0 && h.mayAsk(who, on) {
					asks++
					s, said, _ = s.ask(who, on)
				} else if s.way[1-who] != "" {
					s, said = s.come(h, who)
				}
				all += said
				wantRight(t, h, s)
			}
			for !s.resting() && all <= 2*asks {
				who, said := pick(2), 0
				if s.way[1-who] == "" {
					who = 1 - who
				}
				s, said = s.come(h, who)
				all += said
			}
			wantRight(t, h, s)
			if all > 2*asks {
				t.Fatalf("%v, seed %d: %d said of %d asked", h, seed, all, asks)
			}
		}
	}
}
