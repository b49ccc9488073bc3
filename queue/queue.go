// Package queue is layer 1: see shared/doc/01-queue.md.
package queue

import (
	"bytes"

	"linnet/api"
)

// New is one in which none waits.
func New(room int) (api.Queue, api.Errno) {
	q := api.Queue{Cap: room}
	if e := Check(q); e != api.OK {
		return api.Queue{}, e
	}
	return q, api.OK
}

// Check says whether a queue may be.
func Check(q api.Queue) api.Errno {
	if q.Cap < 1 || q.Cap > api.MaxQueue || len(q.B) > q.Cap {
		return api.ErrArg
	}
	return api.OK
}

// Put lets as many wait as there is room for.
func Put(q api.Queue, b ...byte) (api.Queue, int, api.Errno) {
	if e := Check(q); e != api.OK {
		return holding(q.Cap, q.B), 0, e
	}
	n := min(len(b), q.Cap-len(q.B))
	return holding(q.Cap, q.B, b[:n]), n, api.OK
}

// Take takes the first ones.
func Take(q api.Queue, n int) (api.Queue, []byte, api.Errno) {
	if e := Check(q); e != api.OK {
		return holding(q.Cap, q.B), nil, e
	}
	n = max(0, min(n, len(q.B)))
	return holding(q.Cap, q.B[n:]), joined(q.B[:n]), api.OK
}

// Same tells whether two are the same.
func Same(a, b api.Queue) bool {
	return a.Cap == b.Cap && bytes.Equal(a.B, b.B)
}

// holding builds each queue that is answered, so that none has memory in common with another one.
func holding(room int, parts ...[]byte) api.Queue {
	return api.Queue{Cap: room, B: joined(parts...)}
}

// joined has memory of its own even for a single part: a caller may change either list later on.
func joined(parts ...[]byte) []byte {
	size := 0
	for _, p := range parts {
		size += len(p)
	}
	whole := make([]byte, size)
	at := 0
	for _, p := range parts {
		at += copy(whole[at:], p)
	}
	return whole
}
