// Package ring is layer 1: see shared/doc/01-ring.md.
package ring

import "truchman/api"

// Ring is bytes that wait. Of all that ever came, the byte with i ahead of
// it has its cell at i modulo the room, so that nothing is moved when bytes
// go out.
type Ring struct {
	cells []byte
	came  int
	went  int
}

// New is an empty one.
func New(room int) (*Ring, error) {
	if room < 1 || room > api.MaxRing {
		return nil, api.ErrRange
	}
	return &Ring{cells: make([]byte, room)}, nil
}

// Put lets bytes come in.
func (r *Ring) Put(b []byte) int {
	n := min(len(b), r.Room())
	if n == 0 {
		return 0
	}
	done := copy(r.cells[r.cell(r.came):], b[:n])
	copy(r.cells, b[done:n])
	r.came += n
	return n
}

// Take lets bytes go out.
func (r *Ring) Take(n int) []byte {
	b := r.Peek(n)
	r.went += len(b)
	return b
}

// Peek is the first bytes.
func (r *Ring) Peek(n int) []byte {
	n = r.waiting(n)
	if n == 0 {
		return nil
	}
	b := make([]byte, n)
	done := copy(b, r.cells[r.cell(r.went):])
	copy(b[done:], r.cells)
	return b
}

// Drop lets bytes go out.
func (r *Ring) Drop(n int) int {
	n = r.waiting(n)
	r.went += n
	return n
}

// Len is how many bytes wait.
func (r *Ring) Len() int { return r.came - r.went }

// Room is how many more fit.
func (r *Ring) Room() int { return len(r.cells) - r.Len() }

// Counts is how many ever came, and went.
func (r *Ring) Counts() (came, went int) { return r.came, r.went }

// waiting is how many of n asked bytes there are.
func (r *Ring) waiting(n int) int { return max(0, min(n, r.Len())) }

// cell is the place of the byte with that many ahead of it. It isn't asked
// of a ring without room.
func (r *Ring) cell(ahead int) int { return ahead % len(r.cells) }
