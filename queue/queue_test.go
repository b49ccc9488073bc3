package queue_test

import (
	"bytes"
	"math"
	"testing"

	"linnet/api"
	"linnet/queue"
)

// rooms that no queue has.
var badRooms = []int{0, -1, math.MinInt, api.MaxQueue + 1, math.MaxInt}

// badQueues are queues that may not be: by their room, or by what waits.
func badQueues() []api.Queue {
	l := []api.Queue{
		{Cap: 1, B: []byte{1, 2}},
		{Cap: 3, B: []byte{1, 2, 3, 4}},
		{Cap: api.MaxQueue, B: make([]byte, api.MaxQueue+1)},
		{Cap: 0, B: []byte{7}},
		{Cap: -1, B: []byte{7, 8}},
		{Cap: api.MaxQueue + 1, B: []byte{7, 8, 9}},
	}
	for _, room := range badRooms {
		l = append(l, api.Queue{Cap: room})
	}
	return l
}

// counted is n octets of which neighbours differ.
func counted(n int) []byte {
	b := make([]byte, n)
	for i := range b {
		b[i] = byte(i*7 + i>>8)
	}
	return b
}

func mustNew(t *testing.T, room int) api.Queue {
	t.Helper()
	q, e := queue.New(room)
	if e != api.OK {
		t.Fatalf("New(%d): error %d", room, e)
	}
	return q
}

func mustPut(t *testing.T, q api.Queue, want int, b ...byte) api.Queue {
	t.Helper()
	p, n, e := queue.Put(q, b...)
	if n != want || e != api.OK {
		t.Fatalf("Put of %d into room %d where %d wait: %d, error %d; want %d", len(b), q.Cap, len(q.B), n, e, want)
	}
	return p
}

func mustTake(t *testing.T, q api.Queue, n int, want ...byte) api.Queue {
	t.Helper()
	p, b, e := queue.Take(q, n)
	if !bytes.Equal(b, want) || e != api.OK {
		t.Fatalf("Take(%d) where %d wait: %d octets, error %d; want %d octets", n, len(q.B), len(b), e, len(want))
	}
	return p
}

func wantWaits(t *testing.T, q api.Queue, room int, b ...byte) {
	t.Helper()
	if q.Cap != room || !bytes.Equal(q.B, b) {
		t.Fatalf("room %d with %v waiting; want room %d with %v", q.Cap, q.B, room, b)
	}
}

// P1.1, New.
func TestNew(t *testing.T) {
	for _, room := range []int{1, 2, 3, 255, api.MaxQueue - 1, api.MaxQueue} {
		wantWaits(t, mustNew(t, room), room)
	}
	for _, room := range badRooms {
		if q, e := queue.New(room); e != api.ErrArg || q.Cap != 0 || len(q.B) != 0 {
			t.Errorf("New(%d): %v, error %d", room, q, e)
		}
	}
}

// P1.1, Check.
func TestCheck(t *testing.T) {
	good := []api.Queue{
		{Cap: 1},
		{Cap: 1, B: []byte{}},
		{Cap: 1, B: []byte{0}},
		{Cap: 3, B: []byte{1, 2}},
		{Cap: 3, B: []byte{1, 2, 3}},
		{Cap: 3, B: make([]byte, 3, 64)},
		{Cap: api.MaxQueue},
		{Cap: api.MaxQueue, B: make([]byte, api.MaxQueue)},
	}
	for _, q := range good {
		if e := queue.Check(q); e != api.OK {
			t.Errorf("room %d, %d wait: error %d", q.Cap, len(q.B), e)
		}
	}
	for _, q := range badQueues() {
		if e := queue.Check(q); e != api.ErrArg {
			t.Errorf("room %d, %d wait: error %d", q.Cap, len(q.B), e)
		}
	}
}

// P1.1, Same.
func TestSame(t *testing.T) {
	cases := []struct {
		a, b api.Queue
		same bool
	}{
		{api.Queue{}, api.Queue{}, true},
		{api.Queue{Cap: 3}, api.Queue{Cap: 3, B: []byte{}}, true},
		{api.Queue{Cap: 3, B: []byte{1, 2}}, api.Queue{Cap: 3, B: []byte{1, 2}}, true},
		{api.Queue{Cap: 3, B: []byte{1, 2}}, api.Queue{Cap: 3, B: append(make([]byte, 0, 9), 1, 2)}, true},
		{api.Queue{Cap: 1, B: []byte{1, 2}}, api.Queue{Cap: 1, B: []byte{1, 2}}, true},
		{api.Queue{Cap: -5}, api.Queue{Cap: -5}, true},
		{api.Queue{Cap: 3}, api.Queue{Cap: 4}, false},
		{api.Queue{Cap: 3, B: []byte{1, 2}}, api.Queue{Cap: 4, B: []byte{1, 2}}, false},
		{api.Queue{Cap: 3}, api.Queue{Cap: 3, B: []byte{0}}, false},
		{api.Queue{Cap: 3, B: []byte{1}}, api.Queue{Cap: 3, B: []byte{1, 2}}, false},
		{api.Queue{Cap: 3, B: []byte{1, 2}}, api.Queue{Cap: 3, B: []byte{2, 1}}, false},
		{api.Queue{Cap: 3, B: []byte{1, 2}}, api.Queue{Cap: 3, B: []byte{1, 3}}, false},
	}
	for i, c := range cases {
		if queue.Same(c.a, c.b) != c.same || queue.Same(c.b, c.a) != c.same {
			t.Errorf("case %d: want %v", i, c.same)
		}
	}
}

// P1.2: the chapter's two examples.
func TestExamples(t *testing.T) {
	q := mustNew(t, 3)
	q = mustPut(t, q, 3, 1, 2, 3, 4)
	q = mustTake(t, q, 2, 1, 2)
	wantWaits(t, q, 3, 3)
	q = mustPut(t, q, 2, 5, 6)
	q = mustTake(t, q, 9, 3, 5, 6)
	wantWaits(t, q, 3)
}

// P1.2, Put.
func TestPut(t *testing.T) {
	q := mustNew(t, 4)
	q = mustPut(t, q, 0)
	wantWaits(t, q, 4)
	q = mustPut(t, q, 2, 0, 255)
	wantWaits(t, q, 4, 0, 255)
	q = mustPut(t, q, 0, []byte{}...)
	wantWaits(t, q, 4, 0, 255)
	q = mustPut(t, q, 2, 13, 10, 9, 8)
	wantWaits(t, q, 4, 0, 255, 13, 10)
	q = mustPut(t, q, 0, 1)
	wantWaits(t, q, 4, 0, 255, 13, 10)
	q = mustPut(t, q, 0)
	wantWaits(t, q, 4, 0, 255, 13, 10)
}

// P1.2: the least room and the greatest.
func TestRooms(t *testing.T) {
	q := mustPut(t, mustNew(t, 1), 1, 5, 6)
	wantWaits(t, q, 1, 5)
	q = mustPut(t, q, 0, 6)
	q = mustTake(t, q, 1, 5)
	q = mustPut(t, q, 1, 6)
	wantWaits(t, q, 1, 6)

	all := counted(api.MaxQueue + 1)
	g := mustPut(t, mustNew(t, api.MaxQueue), api.MaxQueue, all...)
	wantWaits(t, g, api.MaxQueue, all[:api.MaxQueue]...)
	g = mustPut(t, g, 0, 1)
	g = mustTake(t, g, 1, all[0])
	g = mustPut(t, g, 1, 77, 78)
	g = mustTake(t, g, api.MaxQueue-1, all[1:api.MaxQueue]...)
	wantWaits(t, g, api.MaxQueue, 77)
}

// P1.2, Take.
func TestTake(t *testing.T) {
	q := mustPut(t, mustNew(t, 5), 5, 10, 20, 30, 40, 50)
	cases := []struct{ n, taken int }{
		{0, 0}, {-1, 0}, {math.MinInt, 0}, {1, 1}, {4, 4}, {5, 5}, {6, 5}, {math.MaxInt, 5},
	}
	for _, c := range cases {
		p := mustTake(t, q, c.n, q.B[:c.taken]...)
		wantWaits(t, p, 5, q.B[c.taken:]...)
		wantWaits(t, q, 5, 10, 20, 30, 40, 50)
	}
	none := mustNew(t, 5)
	for _, n := range []int{math.MinInt, -1, 0, 1, 5, math.MaxInt} {
		wantWaits(t, mustTake(t, none, n), 5)
	}
}

// P1.2: one that may not be is answered as it is.
func TestBadQueues(t *testing.T) {
	for _, bad := range badQueues() {
		room, waits := bad.Cap, bytes.Clone(bad.B)
		for _, b := range [][]byte{nil, {1}, {1, 2, 3}} {
			p, n, e := queue.Put(bad, b...)
			if n != 0 || e != api.ErrArg {
				t.Errorf("Put, room %d, %d wait: %d, error %d", room, len(waits), n, e)
			}
			wantWaits(t, p, room, waits...)
		}
		for _, n := range []int{-1, 0, 1, math.MaxInt} {
			p, b, e := queue.Take(bad, n)
			if len(b) != 0 || e != api.ErrArg {
				t.Errorf("Take, room %d, %d wait: %v, error %d", room, len(waits), b, e)
			}
			wantWaits(t, p, room, waits...)
		}
		wantWaits(t, bad, room, waits...)
	}
}

// lists are the lists of a call: handed in, and answered.
type lists map[string][]byte

// wantApart writes over each list, to the end of its memory, and looks whether another one changes.
func wantApart(t *testing.T, call string, l lists) {
	t.Helper()
	for name, b := range l {
		whole := b[:cap(b)]
		before := map[string][]byte{}
		for other, o := range l {
			before[other] = bytes.Clone(o[:cap(o)])
		}
		for i := range whole {
			whole[i] ^= 255
		}
		for other, o := range l {
			if other != name && !bytes.Equal(o[:cap(o)], before[other]) {
				t.Errorf("%s: %s has a part in common with %s", call, name, other)
			}
		}
	}
}

// P1.2: no memory in common, of queues with spare memory behind what waits too.
func TestApart(t *testing.T) {
	queues := func() []api.Queue {
		return append(badQueues(),
			api.Queue{Cap: 8},
			api.Queue{Cap: 8, B: append(make([]byte, 0, 64), 1, 2, 3)},
			api.Queue{Cap: 3, B: append(make([]byte, 0, 64), 1, 2, 3)})
	}
	for i := range queues() {
		for _, size := range []int{0, 1, 5, 9} {
			q, b := queues()[i], counted(size)
			p1, _, _ := queue.Put(q, b...)
			p2, _, _ := queue.Put(q, b...)
			wantApart(t, "Put", lists{"queue": q.B, "octets": b, "answer": p1.B, "second answer": p2.B})
		}
		for _, n := range []int{-1, 0, 1, 2, 3, 9} {
			q := queues()[i]
			p1, b1, _ := queue.Take(q, n)
			p2, b2, _ := queue.Take(q, n)
			wantApart(t, "Take", lists{"queue": q.B, "answer": p1.B, "taken": b1, "second answer": p2.B, "second taken": b2})
		}
	}
	n1, n2 := mustNew(t, 9), mustNew(t, 9)
	wantApart(t, "New", lists{"one": n1.B, "other": n2.B})
}

// P1.2: two that are put behind one do not see each other, and it stays.
func TestPutTwice(t *testing.T) {
	q := mustPut(t, mustNew(t, 9), 2, 1, 2)
	a := mustPut(t, q, 1, 3)
	b := mustPut(t, q, 1, 4)
	wantWaits(t, q, 9, 1, 2)
	wantWaits(t, a, 9, 1, 2, 3)
	wantWaits(t, b, 9, 1, 2, 4)
}

// P1.3: whatever pieces are put and taken, what comes out is what went in.
func TestInOrder(t *testing.T) {
	seed := uint32(1)
	pick := func(below int) int {
		seed = seed*1664525 + 1013904223
		return int(seed>>8) % below
	}
	for _, room := range []int{1, 2, 3, 7, 64, 1000} {
		q := mustNew(t, room)
		var put, taken []byte
		next := 0
		for range 400 {
			b := make([]byte, pick(2*room+2))
			for i := range b {
				b[i] = byte(next + i*3)
			}
			next += 41
			p, n, e := queue.Put(q, b...)
			if want := min(len(b), room-len(q.B)); n != want || e != api.OK {
				t.Fatalf("Put: %d, error %d; want %d", n, e, want)
			}
			put = append(put, b[:n]...)
			p, out, e := queue.Take(p, pick(room+3)-1)
			if e != api.OK || queue.Check(p) != api.OK || p.Cap != room {
				t.Fatalf("Take: %v, error %d", p, e)
			}
			taken = append(taken, out...)
			if !bytes.Equal(put, append(bytes.Clone(taken), p.B...)) {
				t.Fatalf("room %d: what was taken, and what waits, is not what was put", room)
			}
			q = p
		}
		q = mustTake(t, q, room, put[len(taken):]...)
		wantWaits(t, q, room)
	}
}

// P1.3: octet by octet through the least room, each of the 256.
func TestOctetByOctet(t *testing.T) {
	q := mustNew(t, 1)
	for i := range 256 {
		q = mustPut(t, q, 1, byte(i))
		q = mustTake(t, q, 1, byte(i))
	}
	wantWaits(t, q, 1)
}
