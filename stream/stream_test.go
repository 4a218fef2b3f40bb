package stream_test

import (
	"bytes"
	"errors"
	"fmt"
	"math"
	"math/rand"
	"slices"
	"testing"

	"truchman/api"
	"truchman/stream"
)

// got is what Next answers of a byte that is there.
type got struct {
	c    byte
	mark bool
}

// model is what a Stream should hold. It never throws away a byte: what is
// read, and what went out, are beginnings of what it holds.
type model struct {
	came   []got
	read   int
	closed bool
	room   int
	sent   []byte
	out    int
}

func (m *model) deliver(b []byte, marks []int) error {
	if m.closed {
		return api.ErrClosed
	}
	for i, p := range marks {
		if p < 0 || p >= len(b) || i > 0 && p <= marks[i-1] {
			return api.ErrRange
		}
	}
	if len(m.came)-m.read+len(b) > api.MaxRing {
		return api.ErrFull
	}
	for i, c := range b {
		m.came = append(m.came, got{c, slices.Contains(marks, i)})
	}
	return nil
}

func (m *model) close() error {
	if m.closed {
		return api.ErrClosed
	}
	m.closed = true
	return nil
}

func (m *model) next() (got, bool) {
	if m.read == len(m.came) {
		return got{}, false
	}
	m.read++
	return m.came[m.read-1], true
}

func (m *model) send(b []byte) error {
	if m.closed {
		return api.ErrClosed
	}
	if len(m.sent)-m.out+len(b) > m.room {
		return api.ErrFull
	}
	m.sent = append(m.sent, b...)
	return nil
}

func (m *model) grant(n int) int {
	if m.closed || n < 1 {
		return 0
	}
	n = min(n, len(m.sent)-m.out)
	m.out += n
	return n
}

// both is a Stream, and the model of it: each call is done to both, its
// answers are held against each other, and then all that can be asked is.
type both struct {
	t     *testing.T
	is    *stream.Stream
	model *model
}

func newBoth(t *testing.T, room int) both {
	t.Helper()
	s, err := stream.New(room)
	if err != nil || s == nil {
		t.Fatalf("New(%d): %v, %v", room, s, err)
	}
	b := both{t, s, &model{room: room}}
	b.holds()
	return b
}

// given is an argument with room behind it that belongs to others; whole is
// the argument, and that room.
func given[T any](list []T, behind ...T) (arg, whole []T) {
	whole = slices.Concat(list, behind)
	return whole[:len(list)], whole
}

func (b both) deliver(text string, marks ...int) error {
	b.t.Helper()
	c, cs := given([]byte(text), '#', '#')
	m, ms := given(marks, -7, -7)
	got, want := b.is.Deliver(c, m), b.model.deliver([]byte(text), marks)
	if !errors.Is(got, want) {
		b.t.Fatalf("Deliver(%.40q, %v): %v, not %v", text, marks, got, want)
	}
	if string(cs) != text+"##" || !slices.Equal(ms, slices.Concat(marks, []int{-7, -7})) {
		b.t.Fatalf("Deliver(%.40q, %v) changed what it was given: %.40q, %v", text, marks, cs, ms)
	}
	// What was given is the caller's again: nothing of it may be kept.
	for i := range cs {
		cs[i] = '!'
	}
	for i := range ms {
		ms[i] = 0
	}
	b.holds()
	return got
}

func (b both) close() error {
	b.t.Helper()
	got, want := b.is.Close(), b.model.close()
	if !errors.Is(got, want) {
		b.t.Fatalf("Close: %v, not %v", got, want)
	}
	b.holds()
	return got
}

func (b both) next() (c byte, mark, is bool) {
	b.t.Helper()
	c, mark, is = b.is.Next()
	want, there := b.model.next()
	if (got{c, mark}) != want || is != there {
		b.t.Fatalf("Next: %q, %v, %v, not %q, %v, %v", c, mark, is, want.c, want.mark, there)
	}
	b.holds()
	return c, mark, is
}

func (b both) send(text string) error {
	b.t.Helper()
	c, cs := given([]byte(text), '#', '#')
	got, want := b.is.Send(c), b.model.send([]byte(text))
	if !errors.Is(got, want) {
		b.t.Fatalf("Send(%.40q): %v, not %v", text, got, want)
	}
	if string(cs) != text+"##" {
		b.t.Fatalf("Send(%.40q) changed what it was given: %.40q", text, cs)
	}
	for i := range cs {
		cs[i] = '!'
	}
	b.holds()
	return got
}

func (b both) grant(n int) int {
	b.t.Helper()
	got, want := b.is.Grant(n), b.model.grant(n)
	if got != want {
		b.t.Fatalf("Grant(%d): %d, not %d", n, got, want)
	}
	b.holds()
	return got
}

// holds asks everything that can be asked of a Stream without changing it,
// and writes over what it answers, and over the room behind that.
func (b both) holds() {
	b.t.Helper()
	m := b.model
	waits := len(m.came) - m.read
	for _, q := range []struct {
		what      string
		got, want any
	}{
		{"Waits", b.is.Waits(), waits},
		{"Read", b.is.Read(), m.read},
		{"Closed", b.is.Closed(), m.closed},
		{"Ended", b.is.Ended(), m.closed && waits == 0},
		{"Room", b.is.Room(), m.room - (len(m.sent) - m.out)},
	} {
		if q.got != q.want {
			b.t.Fatalf("%s: %v, not %v", q.what, q.got, q.want)
		}
	}
	for range 2 {
		wire := b.is.Wire()
		if !bytes.Equal(wire, m.sent[:m.out]) {
			b.t.Fatalf("Wire: %.80q, not %.80q", wire, m.sent[:m.out])
		}
		wire = wire[:cap(wire)]
		for i := range wire {
			wire[i] = '?'
		}
	}
}

// reads reads so many bytes, or till there are no more: the bytes, and the
// places of those with a mark.
func (b both) reads(n int) (text string, marks []int) {
	b.t.Helper()
	for i := range n {
		c, mark, is := b.next()
		if !is {
			break
		}
		text += string([]byte{c})
		if mark {
			marks = append(marks, i)
		}
	}
	return text, marks
}

func (b both) mustRead(n int, wantText string, wantMarks ...int) {
	b.t.Helper()
	if text, marks := b.reads(n); text != wantText || !slices.Equal(marks, wantMarks) {
		b.t.Fatalf("%.80q, marks %v, not %.80q, marks %v", text, marks, wantText, wantMarks)
	}
}

func (b both) must(err, want error) {
	b.t.Helper()
	if !errors.Is(err, want) {
		b.t.Fatalf("%v, not %v", err, want)
	}
}

func (b both) mustGrant(n, want int, wire string) {
	b.t.Helper()
	if got := b.grant(n); got != want || string(b.is.Wire()) != wire {
		b.t.Fatalf("Grant(%d): %d, not %d; Wire: %q, not %q", n, got, want, b.is.Wire(), wire)
	}
}

// all is so many bytes, none of them like its neighbours.
func all(n int) string {
	b := make([]byte, n)
	for i := range b {
		b[i] = byte(i * 7)
	}
	return string(b)
}

// P3.1: the room of New, at its ends and beyond them.
func TestNew(t *testing.T) {
	for _, room := range []int{math.MinInt, -1, 0, api.MaxRing + 1, math.MaxInt} {
		if s, err := stream.New(room); s != nil || !errors.Is(err, api.ErrRange) {
			t.Errorf("New(%d): %v, %v", room, s, err)
		}
	}
	for _, room := range []int{1, 2, 1024, api.MaxOut, api.MaxRing} {
		b := newBoth(t, room)
		b.next()
		if b.is.Room() != room || b.is.Waits() != 0 || b.is.Closed() || b.is.Ended() {
			t.Errorf("New(%d) is one on which something happened", room)
		}
	}
}

// The chapter's example.
func TestExample(t *testing.T) {
	b := newBoth(t, 10)
	b.must(b.deliver("ab", 1), nil)
	if c, mark, is := b.next(); c != 'a' || mark || !is {
		t.Fatal(c, mark, is)
	}
	if c, mark, is := b.next(); c != 'b' || !mark || !is {
		t.Fatal(c, mark, is)
	}
	if c, mark, is := b.next(); c != 0 || mark || is {
		t.Fatal(c, mark, is)
	}
}

// P3.1: marks at the places of the bytes, at the ends and beyond them.
func TestMarks(t *testing.T) {
	for _, marks := range [][]int{nil, {0}, {1}, {3}, {0, 3}, {0, 1, 2, 3}, {1, 2}} {
		b := newBoth(t, 1)
		b.must(b.deliver("abcd", marks...), nil)
		b.mustRead(9, "abcd", marks...)
	}
	wrong := [][]int{
		{4}, {5}, {-1}, {math.MaxInt}, {math.MinInt}, // beyond the ends
		{0, 0}, {3, 3}, {0, 1, 1}, {1, 2, 2, 3}, // twice the same
		{1, 0}, {3, 2}, {0, 2, 1}, {0, 3, 1}, // falling
		{0, 4}, {-1, 0}, {0, -1}, {0, math.MaxInt}, {3, 4}, {math.MaxInt, math.MinInt}, {math.MaxInt, 0}, // one of two
	}
	for _, marks := range wrong {
		b := newBoth(t, 1)
		b.must(b.deliver("abcd", marks...), api.ErrRange)
		b.mustRead(9, "")
		// The marks that were right of those come with no later byte.
		b.must(b.deliver("efgh", 2), nil)
		b.mustRead(9, "efgh", 2)
	}
}

// P3.1: no bytes come, with marks and without.
func TestDeliverNothing(t *testing.T) {
	b := newBoth(t, 1)
	b.must(b.deliver(""), nil)
	if err := b.is.Deliver(nil, nil); err != nil {
		t.Fatal(err)
	}
	b.must(b.deliver("", 0), api.ErrRange)
	b.must(b.deliver("", -1), api.ErrRange)
	if err := b.is.Deliver(nil, []int{0}); !errors.Is(err, api.ErrRange) {
		t.Fatal(err)
	}
	b.holds()
	b.must(b.deliver("x"), nil)
	b.must(b.deliver(""), nil)
	b.mustRead(2, "x")
}

// P3.1: marks of several deliveries are counted from the first byte of each,
// also behind bytes that were read.
func TestMarksOfParts(t *testing.T) {
	b := newBoth(t, 1)
	b.must(b.deliver("abc", 0, 2), nil)
	b.must(b.deliver("de", 1), nil)
	b.mustRead(2, "ab", 0)
	b.must(b.deliver("fgh", 0, 1, 2), nil)
	b.mustRead(3, "cde", 0, 2)
	b.must(b.deliver("i"), nil)
	b.mustRead(9, "fghi", 0, 1, 2)
	b.must(b.deliver("jk", 0), nil)
	b.mustRead(9, "jk", 0)
}

// P3.1: as many bytes come as there is room for, and not one more; what was
// read makes room anew.
func TestDeliverFull(t *testing.T) {
	whole := all(api.MaxRing)
	b := newBoth(t, 1)
	b.must(b.deliver(whole+"x", 0), api.ErrFull)
	b.mustRead(1, "")
	b.must(b.deliver(whole, 0, api.MaxRing-1), nil)
	b.must(b.deliver("x"), api.ErrFull)
	b.must(b.deliver("x", 0), api.ErrFull)
	b.must(b.deliver(""), nil)
	b.mustRead(2, whole[:2], 0)
	b.must(b.deliver("xyz", 0, 1, 2), api.ErrFull)
	b.must(b.deliver("xy", 1), nil)
	b.must(b.deliver("z"), api.ErrFull)
	b.mustRead(api.MaxRing+1, whole[2:]+"xy", api.MaxRing-3, api.MaxRing-1)
	b.must(b.deliver(whole), nil)
	b.mustRead(api.MaxRing+1, whole)
}

// P3.1: the room of what comes isn't that of what goes out, either way.
func TestRoomsApart(t *testing.T) {
	b := newBoth(t, 2)
	b.must(b.deliver(all(api.MaxRing)), nil)
	b.must(b.send("ab"), nil)
	b.must(b.send("c"), api.ErrFull)
	b.mustGrant(2, 2, "ab")
	b.must(b.deliver("x"), api.ErrFull)
	b.mustRead(1, "\x00")
	b.must(b.send("cd"), nil)
	b.must(b.deliver("x"), nil)
	b.must(b.send("e"), api.ErrFull)
}

// P3.1: which error is told where two, or three, could be.
func TestErrorsInOrder(t *testing.T) {
	long := all(api.MaxRing + 1)
	b := newBoth(t, 3)
	b.must(b.deliver(long, -1), api.ErrRange)
	b.must(b.deliver(long, len(long)), api.ErrRange)
	b.must(b.deliver(long, 1, 1), api.ErrRange)
	b.must(b.deliver(long, 1), api.ErrFull)
	b.must(b.send("abcd"), api.ErrFull)
	b.must(b.close(), nil)
	b.must(b.deliver(long, -1), api.ErrClosed)
	b.must(b.deliver(long), api.ErrClosed)
	b.must(b.deliver("ab", 2), api.ErrClosed)
	b.must(b.send("abcd"), api.ErrClosed)
}

// P3.1: what waits goes out as it is granted.
func TestGrant(t *testing.T) {
	b := newBoth(t, 5)
	b.mustGrant(3, 0, "")
	b.must(b.send("abc"), nil)
	for _, n := range []int{0, -1, math.MinInt} {
		b.mustGrant(n, 0, "")
	}
	b.mustGrant(1, 1, "a")
	b.must(b.send("def"), nil)
	b.must(b.send("g"), api.ErrFull)
	b.mustGrant(2, 2, "abc")
	b.mustGrant(4, 3, "abcdef")
	b.mustGrant(1, 0, "abcdef")
	b.must(b.send("gh"), nil)
	b.mustGrant(math.MaxInt, 2, "abcdefgh")
	b.mustGrant(math.MaxInt, 0, "abcdefgh")
}

// P3.1: as many bytes wait as there is room for, and not one more.
func TestSendFull(t *testing.T) {
	for _, room := range []int{1, 2, 7, api.MaxRing} {
		whole := all(room)
		b := newBoth(t, room)
		b.must(b.send(""), nil)
		b.must(b.send(whole+"x"), api.ErrFull)
		b.mustGrant(1, 0, "")
		b.must(b.send(whole), nil)
		b.must(b.send("x"), api.ErrFull)
		b.must(b.send(""), nil)
		if err := b.is.Send(nil); err != nil {
			t.Fatal(err)
		}
		b.mustGrant(1, 1, whole[:1])
		b.must(b.send("xy"), api.ErrFull)
		b.must(b.send("x"), nil)
		b.must(b.send("y"), api.ErrFull)
		b.mustGrant(room+1, room, whole+"x")
	}
}

// P3.1: behind Close nothing comes, and nothing goes out; what came is read.
func TestClose(t *testing.T) {
	b := newBoth(t, 4)
	b.must(b.deliver("abc", 1), nil)
	b.must(b.send("xyz"), nil)
	b.mustGrant(1, 1, "x")
	b.must(b.close(), nil)
	b.must(b.close(), api.ErrClosed)
	b.must(b.deliver("d"), api.ErrClosed)
	b.must(b.deliver(""), api.ErrClosed)
	b.must(b.send("d"), api.ErrClosed)
	b.must(b.send(""), api.ErrClosed)
	for _, n := range []int{math.MinInt, -1, 0, 1, 2, math.MaxInt} {
		b.mustGrant(n, 0, "x")
	}
	for i, want := range []bool{false, false, true} {
		b.next()
		if b.is.Ended() != want {
			t.Fatalf("Ended is not %v when %d were read", want, i+1)
		}
	}
	b.mustRead(1, "")
	b.must(b.close(), api.ErrClosed)
	b.mustGrant(1, 0, "x")
	if b.is.Read() != 3 || b.is.Room() != 2 {
		t.Fatal(b.is.Read(), b.is.Room())
	}
}

// P3.1: a stream on which nothing happened but Close has ended.
func TestCloseAtOnce(t *testing.T) {
	b := newBoth(t, 4)
	b.must(b.close(), nil)
	if !b.is.Closed() || !b.is.Ended() {
		t.Fatal("it hasn't ended")
	}
	b.mustRead(1, "")
	b.mustGrant(1, 0, "")
	b.must(b.close(), api.ErrClosed)
}

// Two streams share nothing.
func TestApart(t *testing.T) {
	a, b := newBoth(t, 4), newBoth(t, 4)
	a.must(a.deliver("abc", 0), nil)
	b.must(b.deliver("def", 2), nil)
	a.must(a.send("12"), nil)
	b.must(b.send("345"), nil)
	a.mustGrant(2, 2, "12")
	a.must(a.close(), nil)
	a.mustRead(9, "abc", 0)
	b.mustRead(9, "def", 2)
	b.mustGrant(9, 3, "345")
}

// A zero Stream isn't told by the chapter; it has no room, and doesn't panic.
func TestZero(t *testing.T) {
	var s stream.Stream
	if _, _, is := s.Next(); is || s.Waits() != 0 || s.Read() != 0 || s.Room() != 0 || s.Grant(3) != 0 || len(s.Wire()) != 0 {
		t.Error("it has something")
	}
	if !errors.Is(s.Send([]byte("a")), api.ErrFull) || !errors.Is(s.Deliver([]byte("a"), nil), api.ErrFull) {
		t.Error("it has room")
	}
	if s.Close() != nil || !s.Ended() {
		t.Error("it can't be closed")
	}
}

// parts cuts a text with its marks into pieces, some of them empty.
func parts(r *rand.Rand, text string, marks []int) (texts []string, theirs [][]int) {
	for from := 0; from < len(text); {
		to := min(len(text), from+r.Intn(4))
		var m []int
		for _, p := range marks {
			if from <= p && p < to {
				m = append(m, p-from)
			}
		}
		texts, theirs = append(texts, text[from:to]), append(theirs, m)
		from = to
	}
	return texts, theirs
}

// P3.2: what was delivered is read in order, with its marks, at once and in
// parts, and as it comes and when it is all there.
func TestParted(t *testing.T) {
	r := rand.New(rand.NewSource(3))
	for i := range 200 {
		text := all(1 + r.Intn(60))
		var marks []int
		for p := range len(text) {
			if r.Intn(4) == 0 {
				marks = append(marks, p)
			}
		}
		once := newBoth(t, 1)
		once.must(once.deliver(text, marks...), nil)
		once.mustRead(len(text)+1, text, marks...)

		parted, meanwhile := newBoth(t, 1), newBoth(t, 1)
		var got string
		var gotMarks []int
		texts, theirs := parts(r, text, marks)
		for k := range texts {
			parted.must(parted.deliver(texts[k], theirs[k]...), nil)
			meanwhile.must(meanwhile.deliver(texts[k], theirs[k]...), nil)
			more, moreMarks := meanwhile.reads(r.Intn(5))
			for _, p := range moreMarks {
				gotMarks = append(gotMarks, p+len(got))
			}
			got += more
		}
		parted.mustRead(len(text)+1, text, marks...)
		rest, restMarks := meanwhile.reads(len(text) + 1)
		for _, p := range restMarks {
			gotMarks = append(gotMarks, p+len(got))
		}
		if got+rest != text || !slices.Equal(gotMarks, marks) {
			t.Fatalf("%d: %q, marks %v, not %q, marks %v", i, got+rest, gotMarks, text, marks)
		}
	}
}

// P3.2: what went out is a beginning of what was sent, whatever is granted,
// and whenever it is closed.
func TestWireIsABeginning(t *testing.T) {
	r := rand.New(rand.NewSource(32))
	for range 200 {
		b := newBoth(t, 1+r.Intn(9))
		var sent []byte
		ends := r.Intn(40)
		granted := 0
		for i := range 40 {
			text := all(r.Intn(6))
			if b.send(text) == nil {
				sent = append(sent, text...)
			}
			granted += b.grant(r.Intn(8) - 1)
			if i == ends {
				b.must(b.close(), nil)
			}
			if wire := b.is.Wire(); !bytes.HasPrefix(sent, wire) || len(wire) != granted {
				t.Fatalf("%q went out of %q", wire, sent)
			}
		}
	}
}

// walk does one call, one of all of them, with arguments that are mostly right.
func walk(b both, r *rand.Rand, closes bool) {
	b.t.Helper()
	switch k := r.Intn(40); {
	case k < 12:
		text := all(r.Intn(5))
		var marks []int
		for p := range len(text) + 1 {
			if r.Intn(5) == 0 {
				marks = append(marks, p-r.Intn(9)/8)
			}
		}
		b.deliver(text, marks...)
	case k < 24:
		b.next()
	case k < 31:
		b.send(all(r.Intn(5)))
	case k < 39:
		b.grant(r.Intn(6) - 1)
	case closes && r.Intn(5) == 0:
		b.close()
	default:
		b.deliver(all(r.Intn(2*api.MaxRing)), r.Intn(50), 50)
	}
}

// P3.1 and P3.2: long walks of all calls, in every order.
func TestWalks(t *testing.T) {
	for seed := range int64(60) {
		t.Run(fmt.Sprint(seed), func(t *testing.T) {
			r := rand.New(rand.NewSource(seed))
			b := newBoth(t, 1+r.Intn(12))
			for range 600 {
				walk(b, r, seed%2 == 0)
			}
		})
	}
}
