package naws_test

import (
	"bytes"
	"encoding/binary"
	"errors"
	"math"
	"math/rand"
	"slices"
	"testing"

	"truchman/api"
	"truchman/naws"
)

// told is a number that may be columns or rows, and the bytes that tell it.
type told struct {
	n         int
	high, low byte
}

// edges is the numbers at which a byte turns, with their bytes written down,
// and some between them.
func edges() []told {
	return []told{
		{0, 0, 0},
		{1, 0, 1},
		{24, 0, 24},
		{80, 0, 80},
		{127, 0, 127},
		{128, 0, 128},
		{199, 0, 199},
		{200, 0, 200},
		{201, 0, 201},
		{254, 0, 254},
		{255, 0, 255},
		{256, 1, 0},
		{257, 1, 1},
		{511, 1, 255},
		{512, 2, 0},
		{4097, 16, 1},
		{32767, 127, 255},
		{32768, 128, 0},
		{65279, 254, 255},
		{65280, 255, 0},
		{65281, 255, 1},
		{65534, 255, 254},
		{65535, 255, 255},
	}
}

// outside is numbers that are neither columns nor rows, near and far: among
// them such whose last two bytes are those of a number that may be.
func outside() []int {
	return []int{
		-1, -2, -24, -80, -255, -256, -257, -32768, -65280, -65535, -65536, -65537, 80 - 65536,
		65536, 65537, 65536 + 24, 65536 + 80, 2*65536 - 1, 2 * 65536, 1 << 24, 1<<24 + 80,
		1<<31 - 1, 1 << 31, 1<<31 + 80, -1 << 31, -1<<31 + 80, 1<<32 - 1, 1 << 32, 1<<32 + 80, -1 << 32, -1<<32 + 80,
		math.MaxInt, math.MaxInt - 1, math.MaxInt - 65535, math.MinInt, math.MinInt + 1, math.MinInt + 80,
	}
}

// numbers is all edges, and then all that is outside.
func numbers() []int {
	var list []int
	for _, e := range edges() {
		list = append(list, e.n)
	}
	return append(list, outside()...)
}

// may tells whether a number may be columns or rows.
func may(n int) bool { return n >= 0 && n <= 65535 }

// bodyOf is what Body should answer.
func bodyOf(s naws.Size) ([]byte, error) {
	if !may(s.Cols) || !may(s.Rows) {
		return nil, api.ErrRange
	}
	b := binary.BigEndian.AppendUint16(nil, uint16(s.Cols))
	return binary.BigEndian.AppendUint16(b, uint16(s.Rows)), nil
}

// sizeOf is what Parse should answer.
func sizeOf(b []byte) (naws.Size, error) {
	switch {
	case len(b) <= 3:
		return naws.Size{}, api.ErrShort
	case len(b) >= 5:
		return naws.Size{}, api.ErrLong
	}
	n := binary.BigEndian.Uint32(b)
	return naws.Size{Cols: int(n / 65536), Rows: int(n % 65536)}, nil
}

// fitOf is what Fit should answer of one of a size's numbers: of those that
// are above 0 the least.
func fitOf(a, b int) int {
	list := slices.DeleteFunc([]int{a, b}, func(n int) bool { return n <= 0 })
	if len(list) == 0 {
		return 0
	}
	return slices.Min(list)
}

// given is bytes, and the same with room behind them that isn't theirs.
func given(b []byte) (theirs, all []byte) {
	all = slices.Concat(b, []byte("####"))
	return all[:len(b)], all
}

// scribble writes over bytes, and over the room behind them.
func scribble(b []byte) {
	b = b[:cap(b)]
	for i := range b {
		b[i] = '?'
	}
}

// mustTell holds Right and Body of a size against the model: they never
// disagree, and what Body answers is read as the size again.
func mustTell(t *testing.T, s naws.Size) {
	t.Helper()
	want, wantErr := bodyOf(s)
	if got := naws.Right(s); got != (wantErr == nil) {
		t.Fatalf("Right of %+v: %v", s, got)
	}
	got, err := naws.Body(s)
	if wantErr != nil {
		if len(got) != 0 || !errors.Is(err, wantErr) {
			t.Fatalf("Body of %+v: % x, %v, not nothing, %v", s, got, err, wantErr)
		}
		return
	}
	if err != nil || !bytes.Equal(got, want) {
		t.Fatalf("Body of %+v: % x, %v, not % x", s, got, err, want)
	}
	if back, err := naws.Parse(got); err != nil || back != s {
		t.Fatalf("Parse of the body of %+v: %+v, %v", s, back, err)
	}
}

// mustRead holds Parse of bytes against the model: it changes nothing of what
// it is given, nor of the room behind, and a size's body is told by those bytes.
func mustRead(t *testing.T, b []byte) {
	t.Helper()
	want, wantErr := sizeOf(b)
	theirs, all := given(b)
	got, err := naws.Parse(theirs)
	if string(all) != string(b)+"####" {
		t.Fatalf("Parse changed what it was given: % .60x, it was % .60x", all, b)
	}
	if wantErr != nil {
		if got != (naws.Size{}) || !errors.Is(err, wantErr) {
			t.Fatalf("Parse of % .60x: %+v, %v, not nothing, %v", b, got, err, wantErr)
		}
		return
	}
	scribble(all)
	if err != nil || got != want {
		t.Fatalf("Parse of % x: %+v, %v, not %+v", b, got, err, want)
	}
	if back, err := naws.Body(got); err != nil || !bytes.Equal(back, b) {
		t.Fatalf("Body of the size of % x: % x, %v", b, back, err)
	}
}

// mustFit holds Fit of two sizes against the model, both ways around.
func mustFit(t *testing.T, a, b naws.Size) {
	t.Helper()
	want := naws.Size{Cols: fitOf(a.Cols, b.Cols), Rows: fitOf(a.Rows, b.Rows)}
	if got := naws.Fit(a, b); got != want {
		t.Fatalf("Fit of %+v and %+v: %+v, not %+v", a, b, got, want)
	}
	if got := naws.Fit(b, a); got != want {
		t.Fatalf("Fit of %+v and %+v: %+v, not %+v", b, a, got, want)
	}
}

func TestExample(t *testing.T) {
	s := naws.Size{Cols: 80, Rows: 24}
	if !naws.Right(s) {
		t.Fatal("80 columns, 24 rows are no size")
	}
	if b, err := naws.Body(s); err != nil || !bytes.Equal(b, []byte{0, 80, 0, 24}) {
		t.Fatalf("Body: % x, %v", b, err)
	}
	if got, err := naws.Parse([]byte{0, 80, 0, 24}); err != nil || got != s {
		t.Fatalf("Parse: %+v, %v", got, err)
	}
}

// Of each edge as columns with each edge as rows, the body is that which is
// written down: the columns first, of both the high byte first.
func TestEdges(t *testing.T) {
	for _, c := range edges() {
		for _, r := range edges() {
			s := naws.Size{Cols: c.n, Rows: r.n}
			want := []byte{c.high, c.low, r.high, r.low}
			if !naws.Right(s) {
				t.Fatalf("%+v is no size", s)
			}
			if b, err := naws.Body(s); err != nil || !bytes.Equal(b, want) {
				t.Fatalf("Body of %+v: % x, %v, not % x", s, b, err, want)
			}
			if got, err := naws.Parse(want); err != nil || got != s {
				t.Fatalf("Parse of % x: %+v, %v, not %+v", want, got, err, s)
			}
			mustTell(t, s)
			mustRead(t, want)
		}
	}
}

// What is no size on the columns alone, on the rows alone, or on both, has no
// body.
func TestOutside(t *testing.T) {
	refuse := func(s naws.Size) {
		t.Helper()
		if naws.Right(s) {
			t.Fatalf("%+v is a size", s)
		}
		if b, err := naws.Body(s); len(b) != 0 || !errors.Is(err, api.ErrRange) {
			t.Fatalf("Body of %+v: % x, %v", s, b, err)
		}
		mustTell(t, s)
	}
	for _, n := range outside() {
		for _, e := range edges() {
			refuse(naws.Size{Cols: n, Rows: e.n})
			refuse(naws.Size{Cols: e.n, Rows: n})
		}
		for _, m := range outside() {
			refuse(naws.Size{Cols: n, Rows: m})
		}
	}
}

// Every number from far below 0 to far beyond 65535, as columns and as rows.
func TestEveryNumber(t *testing.T) {
	for n := -70000; n <= 140000; n++ {
		mustTell(t, naws.Size{Cols: n, Rows: 258})
		mustTell(t, naws.Size{Cols: 258, Rows: n})
		mustTell(t, naws.Size{Cols: n, Rows: n})
	}
}

// Every number that two bytes tell, as columns and as rows.
func TestEveryTwoBytes(t *testing.T) {
	for n := range 65536 {
		high, low := byte(n/256), byte(n%256)
		mustRead(t, []byte{high, low, 1, 2})
		mustRead(t, []byte{1, 2, high, low})
		mustRead(t, []byte{high, low, low, high})
	}
}

// Four bytes of which one, and then all but one, are something.
func TestBytesByTurns(t *testing.T) {
	for at := range 4 {
		for c := range 256 {
			for _, other := range []byte{0, 1, 127, 128, 254, 255} {
				b := bytes.Repeat([]byte{other}, 4)
				b[at] = byte(c)
				mustRead(t, b)
			}
		}
	}
}

func TestParseOfOtherLengths(t *testing.T) {
	for _, b := range [][]byte{nil, {}} {
		if s, err := naws.Parse(b); s != (naws.Size{}) || !errors.Is(err, api.ErrShort) {
			t.Fatalf("Parse of no byte: %+v, %v", s, err)
		}
	}
	for n := range 600 {
		want := api.ErrLong
		switch {
		case n < 4:
			want = api.ErrShort
		case n == 4:
			want = nil
		}
		for _, c := range []byte{0, 1, 80, 255} {
			b := bytes.Repeat([]byte{c}, n)
			mustRead(t, b)
			if _, err := naws.Parse(b); !errors.Is(err, want) {
				t.Fatalf("Parse of %d bytes: %v, not %v", n, err, want)
			}
		}
	}
	for _, n := range []int{1 << 12, 1 << 16, 1<<16 + 4, 1 << 20} {
		mustRead(t, make([]byte, n))
	}
}

// A size is its caller's, and hangs on nothing that Parse was given.
func TestParsedStays(t *testing.T) {
	b := []byte{1, 2, 3, 4, 5, 6}
	s, err := naws.Parse(b[:4])
	scribble(b)
	if err != nil || s != (naws.Size{Cols: 258, Rows: 772}) {
		t.Fatalf("Parse: %+v, %v", s, err)
	}
	if s, err = naws.Parse(b[:4]); err != nil || s != (naws.Size{Cols: '?'<<8 + '?', Rows: '?'<<8 + '?'}) {
		t.Fatalf("Parse of what was turned: %+v, %v", s, err)
	}
	if s, err = naws.Parse(b[:3]); s != (naws.Size{}) || !errors.Is(err, api.ErrShort) {
		t.Fatalf("Parse of three bytes with room behind them: %+v, %v", s, err)
	}
}

// A body is its caller's: turned, it turns no other one.
func TestBodiesApart(t *testing.T) {
	for _, e := range edges() {
		s, other := naws.Size{Cols: e.n, Rows: 65535 - e.n}, naws.Size{Cols: 65535 - e.n, Rows: e.n}
		first, _ := naws.Body(s)
		second, _ := naws.Body(s)
		third, _ := naws.Body(other)
		keep, keepOther := bytes.Clone(first), bytes.Clone(third)
		scribble(first)
		if !bytes.Equal(second, keep) || !bytes.Equal(third, keepOther) {
			t.Fatalf("bodies of %+v and %+v share: % x, % x", s, other, second, third)
		}
		scribble(second)
		if !bytes.Equal(third, keepOther) {
			t.Fatalf("bodies of %+v and %+v share: % x", s, other, third)
		}
		mustTell(t, s)
		mustTell(t, other)
	}
}

// What a call refused leaves nothing behind.
func TestAfterErrors(t *testing.T) {
	for _, n := range outside() {
		naws.Body(naws.Size{Cols: n, Rows: 24})
		mustTell(t, naws.Size{Cols: 80, Rows: 24})
		naws.Parse([]byte{9, 9, 9})
		mustRead(t, []byte{0, 80, 0, 24})
		naws.Parse([]byte{9, 9, 9, 9, 9})
		mustRead(t, []byte{0, 80, 0, 24})
		mustFit(t, naws.Size{Cols: n, Rows: n}, naws.Size{Cols: 80, Rows: 24})
	}
}

// TestFitWrittenDown has Fit's answers written down for a pair of numbers; each
// stands on the columns, then on the rows, then on both, beside numbers of the
// other kind, and both ways around.
func TestFitWrittenDown(t *testing.T) {
	rows := []struct{ a, b, want int }{
		{80, 80, 80}, {80, 81, 80}, {80, 132, 80}, {1, 2, 1}, {1, 1, 1}, {1, 65535, 1}, {255, 256, 255}, {65534, 65535, 65534}, {65535, 65535, 65535},
		{0, 0, 0}, {0, 1, 1}, {0, 80, 80}, {0, 65535, 65535}, {0, 65536, 65536}, {0, math.MaxInt, math.MaxInt},
		{-1, -1, 0}, {-1, 0, 0}, {-1, 1, 1}, {-1, 80, 80}, {-80, 24, 24}, {-80, 80, 80}, {-1, -2, 0}, {-80, -24, 0}, {-65536, 7, 7},
		{math.MinInt, 0, 0}, {math.MinInt, -1, 0}, {math.MinInt, 1, 1}, {math.MinInt, math.MinInt, 0}, {math.MinInt, math.MaxInt, math.MaxInt},
		{65536, 65535, 65535}, {65536, 65536, 65536}, {65536, 65537, 65536}, {65536 + 80, 81, 81}, {1 << 32, 80, 80}, {1 << 32, 1<<32 + 1, 1 << 32},
		{math.MaxInt, 1, 1}, {math.MaxInt, math.MaxInt - 1, math.MaxInt - 1}, {math.MaxInt, math.MaxInt, math.MaxInt}, {math.MaxInt, -1, math.MaxInt},
	}
	hold := func(a, b, want naws.Size) {
		t.Helper()
		if got := naws.Fit(a, b); got != want {
			t.Fatalf("Fit of %+v and %+v: %+v, not %+v", a, b, got, want)
		}
	}
	for _, x := range rows {
		for _, y := range rows {
			a, b, want := naws.Size{Cols: x.a, Rows: y.a}, naws.Size{Cols: x.b, Rows: y.b}, naws.Size{Cols: x.want, Rows: y.want}
			hold(a, b, want)
			hold(b, a, want)
			// The lesser one of the columns may be the other size's than that of the rows.
			a.Rows, b.Rows = b.Rows, a.Rows
			hold(a, b, want)
			hold(b, a, want)
		}
	}
}

// Fit of every edge and of what is outside, on the columns and rows apart.
func TestFitOfEdges(t *testing.T) {
	for _, a := range numbers() {
		for _, b := range numbers() {
			for _, other := range [][2]int{{0, 0}, {3, 5}, {5, 3}, {-3, 5}, {0, 9}} {
				mustFit(t, naws.Size{Cols: a, Rows: other[0]}, naws.Size{Cols: b, Rows: other[1]})
				mustFit(t, naws.Size{Cols: other[0], Rows: a}, naws.Size{Cols: other[1], Rows: b})
			}
			mustFit(t, naws.Size{Cols: a, Rows: b}, naws.Size{Cols: b, Rows: a})
			mustFit(t, naws.Size{Cols: a, Rows: b}, naws.Size{Cols: a, Rows: b})
		}
	}
}

func TestFitOfSmallNumbers(t *testing.T) {
	for a := -5; a <= 5; a++ {
		for b := -5; b <= 5; b++ {
			for c := -5; c <= 5; c++ {
				for d := -5; d <= 5; d++ {
					mustFit(t, naws.Size{Cols: a, Rows: b}, naws.Size{Cols: c, Rows: d})
				}
			}
		}
	}
}

// What is 0 or below on both sides fits into 0, and what nothing bounds is as
// it was, but for what is below 0.
func TestFitOfNothing(t *testing.T) {
	var none []int
	for _, n := range append(outside(), 0) {
		if n <= 0 {
			none = append(none, n)
		}
	}
	for _, a := range none {
		for _, b := range none {
			if got := naws.Fit(naws.Size{Cols: a, Rows: b}, naws.Size{Cols: b, Rows: a}); got != (naws.Size{}) {
				t.Fatalf("Fit of %d and %d, both ways around: %+v", a, b, got)
			}
		}
		for _, n := range numbers() {
			s, want := naws.Size{Cols: n, Rows: n}, naws.Size{Cols: max(0, n), Rows: max(0, n)}
			if got := naws.Fit(s, naws.Size{Cols: a, Rows: a}); got != want {
				t.Fatalf("Fit of %+v and %d on both: %+v", s, a, got)
			}
			if got := naws.Fit(naws.Size{Cols: a, Rows: a}, s); got != want {
				t.Fatalf("Fit of %d on both and %+v: %+v", a, s, got)
			}
		}
	}
}

// someNumber is a number by chance: often an edge, now and then none that may
// be columns or rows.
func someNumber(r *rand.Rand) int {
	switch r.Intn(8) {
	case 0:
		return edges()[r.Intn(len(edges()))].n
	case 1:
		return outside()[r.Intn(len(outside()))]
	case 2:
		return r.Intn(3*65536) - 65536
	case 3:
		return int(r.Uint64())
	}
	return r.Intn(65536)
}

// P12.1, P12.2: long runs by chance.
func TestByChance(t *testing.T) {
	r := rand.New(rand.NewSource(12))
	for range 60000 {
		a := naws.Size{Cols: someNumber(r), Rows: someNumber(r)}
		b := naws.Size{Cols: someNumber(r), Rows: someNumber(r)}
		mustTell(t, a)
		mustFit(t, a, b)
		mustTell(t, naws.Size{Cols: r.Intn(65536), Rows: r.Intn(65536)})
		body := binary.BigEndian.AppendUint32(nil, r.Uint32())
		mustRead(t, body)
		mustRead(t, append(body, byte(r.Intn(256)))[:r.Intn(6)])
	}
}

// No numbers make a call panic, or are told otherwise than they should be.
func FuzzSizes(f *testing.F) {
	f.Add(80, 24, 132, 0)
	f.Add(-1, 65535, 65536, 255)
	f.Add(math.MinInt, math.MaxInt, 0, 256)
	f.Fuzz(func(t *testing.T, a, b, c, d int) {
		mustTell(t, naws.Size{Cols: a, Rows: b})
		mustTell(t, naws.Size{Cols: c, Rows: d})
		mustFit(t, naws.Size{Cols: a, Rows: b}, naws.Size{Cols: c, Rows: d})
	})
}

// No bytes make Parse panic, or are read otherwise than they should be.
func FuzzBodies(f *testing.F) {
	f.Add([]byte{0, 80, 0, 24})
	f.Add([]byte{255, 255, 255})
	f.Add([]byte{255, 0, 255, 0, 0})
	f.Fuzz(mustRead)
}
