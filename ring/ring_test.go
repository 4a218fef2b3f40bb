package ring_test

import (
	"bytes"
	"errors"
	"math"
	"slices"
	"strconv"
	"testing"

	"truchman/api"
	"truchman/ring"
)

// newRing is a ring of that room, which must be one that may be.
func newRing(t *testing.T, room int) *ring.Ring {
	t.Helper()
	r, err := ring.New(room)
	if err != nil || r == nil {
		t.Fatalf("New(%d): %v, %v", room, r, err)
	}
	return r
}

// holds asks everything that can be asked of a ring without changing it.
func holds(t *testing.T, r *ring.Ring, waits string, room, came, went int) {
	t.Helper()
	if got := string(r.Peek(math.MaxInt)); got != waits {
		t.Fatalf("waits %q, not %q", got, waits)
	}
	if got := r.Len(); got != len(waits) {
		t.Fatalf("Len: %d, not %d", got, len(waits))
	}
	if got := r.Room(); got != room {
		t.Fatalf("Room: %d, not %d", got, room)
	}
	if c, w := r.Counts(); c != came || w != went {
		t.Fatalf("Counts: %d, %d, not %d, %d", c, w, came, went)
	}
}

// pattern is n bytes of which no two that are near one another are alike.
func pattern(n int) []byte {
	b := make([]byte, n)
	for i := range b {
		b[i] = byte(i*7 + i/256)
	}
	return b
}

func TestNewTakesRoomsInRange(t *testing.T) {
	for _, room := range []int{1, 2, 3, 4095, api.MaxRing} {
		holds(t, newRing(t, room), "", room, 0, 0)
	}
}

func TestNewRefusesRoomsOutOfRange(t *testing.T) {
	for _, room := range []int{0, -1, math.MinInt, api.MaxRing + 1, math.MaxInt} {
		r, err := ring.New(room)
		if r != nil || !errors.Is(err, api.ErrRange) {
			t.Errorf("New(%d): %v, %v", room, r, err)
		}
	}
}

func TestExample(t *testing.T) {
	r := newRing(t, 3)
	if n := r.Put([]byte("abcd")); n != 3 {
		t.Fatalf("Put of abcd: %d", n)
	}
	holds(t, r, "abc", 0, 3, 0)
	if b := r.Take(2); string(b) != "ab" {
		t.Fatalf("Take 2: %q", b)
	}
	holds(t, r, "c", 2, 3, 2)
	if n := r.Put([]byte("e")); n != 1 {
		t.Fatalf("Put of e: %d", n)
	}
	holds(t, r, "ce", 1, 4, 2)
	if b := r.Take(9); string(b) != "ce" {
		t.Fatalf("Take 9: %q", b)
	}
	holds(t, r, "", 3, 4, 4)
}

func TestRoomOfOne(t *testing.T) {
	r := newRing(t, 1)
	for i := range 300 {
		c := []byte{byte(i), byte(i + 1)}
		if n := r.Put(c); n != 1 {
			t.Fatalf("Put %d: %d", i, n)
		}
		if n := r.Put(c); n != 0 {
			t.Fatalf("Put %d into a full one: %d", i, n)
		}
		holds(t, r, string(c[:1]), 0, i+1, i)
		if b := r.Take(1); !bytes.Equal(b, c[:1]) {
			t.Fatalf("Take %d: %v", i, b)
		}
		holds(t, r, "", 1, i+1, i+1)
	}
}

func TestGreatestRoom(t *testing.T) {
	r := newRing(t, api.MaxRing)
	in := pattern(3 * api.MaxRing)
	if n := r.Put(in); n != api.MaxRing {
		t.Fatalf("Put of more than fit: %d", n)
	}
	holds(t, r, string(in[:api.MaxRing]), 0, api.MaxRing, 0)
	if n := r.Drop(api.MaxRing - 1); n != api.MaxRing-1 {
		t.Fatalf("Drop: %d", n)
	}
	if n := r.Put(in[api.MaxRing:]); n != api.MaxRing-1 {
		t.Fatalf("Put round the end: %d", n)
	}
	holds(t, r, string(in[api.MaxRing-1:2*api.MaxRing-1]), 0, 2*api.MaxRing-1, api.MaxRing-1)
}

func TestPutOfNothing(t *testing.T) {
	r := newRing(t, 2)
	for _, b := range [][]byte{nil, {}} {
		if n := r.Put(b); n != 0 {
			t.Fatalf("Put of nothing: %d", n)
		}
		holds(t, r, "", 2, 0, 0)
	}
}

func TestPutIntoFullOne(t *testing.T) {
	r := newRing(t, 2)
	r.Put([]byte("ab"))
	for _, b := range []string{"", "c", "cd", "cde"} {
		if n := r.Put([]byte(b)); n != 0 {
			t.Fatalf("Put of %q: %d", b, n)
		}
		holds(t, r, "ab", 0, 2, 0)
	}
}

func TestBelowOneNothingIsAnswered(t *testing.T) {
	for _, in := range []string{"", "abc", "abcde"} {
		for _, n := range []int{0, -1, -4096, math.MinInt} {
			r := newRing(t, 5)
			r.Put([]byte(in))
			if b := r.Peek(n); len(b) != 0 {
				t.Errorf("Peek(%d) of %q: %q", n, in, b)
			}
			if b := r.Take(n); len(b) != 0 {
				t.Errorf("Take(%d) of %q: %q", n, in, b)
			}
			if d := r.Drop(n); d != 0 {
				t.Errorf("Drop(%d) of %q: %d", n, in, d)
			}
			holds(t, r, in, 5-len(in), len(in), 0)
		}
	}
}

// TestAskedBytes asks for each number of bytes, fewer than there are, as
// many and more, at each place that the first byte can have.
func TestAskedBytes(t *testing.T) {
	const room = 5
	for start := range room {
		for n := 1; n <= room+2; n++ {
			for wait := 0; wait <= room; wait++ {
				askedBytes(t, room, start, wait, n)
			}
		}
	}
	for _, n := range []int{api.MaxRing + 1, math.MaxInt} {
		askedBytes(t, room, 3, 4, n)
	}
}

func askedBytes(t *testing.T, room, start, wait, n int) {
	t.Helper()
	in := string(pattern(wait))
	fill := func() *ring.Ring {
		r := newRing(t, room)
		r.Put(make([]byte, start))
		r.Drop(start)
		r.Put([]byte(in))
		return r
	}
	k := min(n, wait)
	came := start + wait

	r := fill()
	if b := r.Peek(n); string(b) != in[:k] {
		t.Fatalf("Peek(%d) of %q from %d: %q", n, in, start, b)
	}
	holds(t, r, in, room-wait, came, start)

	r = fill()
	if b := r.Take(n); string(b) != in[:k] {
		t.Fatalf("Take(%d) of %q from %d: %q", n, in, start, b)
	}
	holds(t, r, in[k:], room-wait+k, came, start+k)

	r = fill()
	if d := r.Drop(n); d != k {
		t.Fatalf("Drop(%d) of %q from %d: %d", n, in, start, d)
	}
	holds(t, r, in[k:], room-wait+k, came, start+k)
}

func TestEmptyRing(t *testing.T) {
	r := newRing(t, 3)
	if b := r.Take(1); len(b) != 0 {
		t.Fatalf("Take of an empty one: %q", b)
	}
	if b := r.Peek(1); len(b) != 0 {
		t.Fatalf("Peek of an empty one: %q", b)
	}
	if n := r.Drop(1); n != 0 {
		t.Fatalf("Drop of an empty one: %d", n)
	}
	holds(t, r, "", 3, 0, 0)
}

func TestRingsShareNothing(t *testing.T) {
	a, b := newRing(t, 4), newRing(t, 4)
	a.Put([]byte("ab"))
	b.Put([]byte("xyz"))
	b.Take(1)
	holds(t, a, "ab", 2, 2, 0)
	holds(t, b, "yz", 2, 3, 1)
}

func TestPutKeepsItsArgument(t *testing.T) {
	r := newRing(t, 4)
	whole := []byte("abcdefgh")
	part := whole[1:4]
	r.Put(part)
	r.Drop(2)
	r.Put(part) // round the end
	if string(whole) != "abcdefgh" {
		t.Fatalf("Put changed what it was given, or the room behind it: %q", whole)
	}
	copy(whole, "--------")
	holds(t, r, "dbcd", 0, 6, 2)
	r.Take(4)
	r.Put([]byte("1234"))
	if string(whole) != "--------" {
		t.Fatalf("a later call wrote into an earlier one's argument: %q", whole)
	}
}

func TestAnswersAreTheCallers(t *testing.T) {
	r := newRing(t, 4)
	r.Put([]byte("abcd"))
	first, second := r.Peek(4), r.Peek(4)
	spoil(first)
	if string(second) != "abcd" {
		t.Fatalf("two answers of Peek share: %q", second)
	}
	holds(t, r, "abcd", 0, 4, 0)
	taken := r.Take(2)
	spoil(taken)
	holds(t, r, "cd", 2, 4, 2)
	r.Put([]byte("ef"))
	if string(second) != "abcd" || string(taken) != "!!" {
		t.Fatalf("a later call wrote into an earlier answer: %q, %q", second, taken)
	}
	holds(t, r, "cdef", 0, 6, 2)
}

// spoil writes over an answer and over the room behind it.
func spoil(b []byte) {
	b = b[:cap(b)]
	for i := range b {
		b[i] = '!'
	}
}

// TestEveryOrder goes through long walks of calls. Each answer is held against
// a plain list of all that should have come in and gone out (P1.1); at the end
// what was answered, and what waits, are held against what came in (P1.2).
func TestEveryOrder(t *testing.T) {
	for _, room := range []int{1, 2, 3, 7, 64, 255, 256, 4095, api.MaxRing} {
		t.Run(strconv.Itoa(room), func(t *testing.T) {
			w := walk{t: t, r: newRing(t, room), room: room, seed: uint32(room)}
			for range 1000 {
				w.step()
			}
			if w.went <= 2*room {
				t.Fatalf("the walk hardly went round: %d bytes went out", w.went)
			}
			if got := slices.Concat(w.answered, w.r.Take(room)); !bytes.Equal(got, w.in) {
				t.Fatal("what went out, and what waits, isn't what came in")
			}
		})
	}
}

// walk is a ring, and what it should hold.
type walk struct {
	t        *testing.T
	r        *ring.Ring
	room     int
	seed     uint32
	in       []byte // all that should have come in
	went     int    // how many of these should have gone out
	answered []byte // what the ring itself let go
}

// next is the next of a row of numbers below n that is always the same.
func (w *walk) next(n int) int {
	w.seed = w.seed*1664525 + 1013904223
	return int(w.seed>>8) % n
}

func (w *walk) step() {
	w.t.Helper()
	n := w.next(w.room+4) - 1
	switch w.next(5) {
	case 0, 1:
		w.put(max(0, n))
	case 2:
		w.take(n)
	case 3:
		w.peek(n)
	case 4:
		w.drop(n)
	}
	waits := w.in[w.went:]
	holds(w.t, w.r, string(waits), w.room-len(waits), len(w.in), w.went)
}

// first is the first n bytes that should wait.
func (w *walk) first(n int) []byte {
	waits := w.in[w.went:]
	return waits[:max(0, min(n, len(waits)))]
}

func (w *walk) put(n int) {
	w.t.Helper()
	b := make([]byte, n)
	for i := range b {
		b[i] = byte(w.next(256))
	}
	fits := min(n, w.room-len(w.in)+w.went)
	if got := w.r.Put(b); got != fits {
		w.t.Fatalf("Put of %d: %d, not %d", n, got, fits)
	}
	w.in = append(w.in, b[:fits]...)
}

func (w *walk) take(n int) {
	w.t.Helper()
	want := w.first(n)
	got := w.r.Take(n)
	if !bytes.Equal(got, want) {
		w.t.Fatalf("Take(%d): %q, not %q", n, got, want)
	}
	w.answered = append(w.answered, got...)
	w.went += len(want)
}

func (w *walk) peek(n int) {
	w.t.Helper()
	if got, want := w.r.Peek(n), w.first(n); !bytes.Equal(got, want) {
		w.t.Fatalf("Peek(%d): %q, not %q", n, got, want)
	}
}

func (w *walk) drop(n int) {
	w.t.Helper()
	want := w.first(n)
	ahead := w.r.Peek(n)
	if d := w.r.Drop(n); d != len(want) {
		w.t.Fatalf("Drop(%d): %d, not %d", n, d, len(want))
	}
	w.answered = append(w.answered, ahead...)
	w.went += len(want)
}

// TestZeroRing: it is nothing that the document speaks of, yet no call on it
// may panic.
func TestZeroRing(t *testing.T) {
	var r ring.Ring
	if r.Put([]byte("a")) != 0 || len(r.Take(1)) != 0 || r.Drop(1) != 0 {
		t.Fatal("a ring without room let bytes through")
	}
	holds(t, &r, "", 0, 0, 0)
}
