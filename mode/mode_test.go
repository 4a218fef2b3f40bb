package mode_test

import (
	"bytes"
	"errors"
	"fmt"
	"math"
	"math/rand"
	"slices"
	"testing"

	"truchman/api"
	"truchman/mode"
)

// The bits by their numbers, as the chapter has them.
const (
	edit = 1
	trap = 2
	ack  = 4
	soft = 8
	lit  = 16
)

// inWords is all masks, with their words.
func inWords() map[int]string {
	return map[int]string{
		0:  "none",
		1:  "edit",
		2:  "trap",
		3:  "edit+trap",
		8:  "soft",
		9:  "edit+soft",
		10: "trap+soft",
		11: "edit+trap+soft",
		16: "lit",
		17: "edit+lit",
		18: "trap+lit",
		19: "edit+trap+lit",
		24: "soft+lit",
		25: "edit+soft+lit",
		26: "trap+soft+lit",
		27: "edit+trap+soft+lit",
	}
}

// masks is all masks, rising.
func masks() []int { return []int{0, 1, 2, 3, 8, 9, 10, 11, 16, 17, 18, 19, 24, 25, 26, 27} }

// isMask is whether a number should be a mask.
func isMask(n int) bool { return slices.Contains(masks(), n) }

// far is numbers that are no masks, far below and far beyond them: among them
// such whose last bits are those of a mask.
func far() []int {
	return []int{
		math.MinInt, math.MinInt + 1, math.MinInt + 2, math.MinInt + 8, math.MinInt + 27, math.MinInt + 31,
		-1 << 32, -1<<32 + 1, -1<<32 + 9, -1<<32 + 27, math.MinInt32, math.MinInt32 + 16, -1 << 16, -1<<16 + 3, -1<<8 - 200,
		1<<9 + 1, 1<<10 + 27, 1 << 16, 1<<16 + 3, math.MaxInt32, 1 << 31, 1<<31 + 16, math.MaxUint32, 1 << 32, 1<<32 + 1, 1<<32 + 27,
		1 << 40, 1 << 62, 1<<62 + 8, math.MaxInt - 31, math.MaxInt - 4, math.MaxInt - 1, math.MaxInt,
	}
}

// numbers is each number from -300 to 300, and those that are far.
func numbers() []int {
	list := far()
	for n := -300; n <= 300; n++ {
		list = append(list, n)
	}
	return list
}

// noMasks is those numbers that are no masks.
func noMasks() []int { return slices.DeleteFunc(numbers(), isMask) }

// has is whether a bit is in a number.
func has(n, bit int) bool { return uint64(n)/uint64(bit)%2 == 1 }

// takes is what a tail should take of a mask.
func takes(can, mask int) int {
	sum := 0
	for _, bit := range []int{edit, trap, soft, lit} {
		if has(can, bit) && has(mask, bit) {
			sum += bit
		}
	}
	return sum
}

// parsed is what Parse should answer.
func parsed(b []byte) (mask int, is bool, err error) {
	switch {
	case len(b) == 0 || len(b) == 1:
		return 0, false, api.ErrShort
	case len(b) >= 3:
		return 0, false, api.ErrLong
	case b[0] != 1:
		return 0, false, api.ErrKind
	}
	for _, m := range masks() {
		switch int(b[1]) {
		case m:
			return m, false, nil
		case m + ack:
			return m, true, nil
		}
	}
	return 0, false, api.ErrForm
}

// told is a mask's body, and answered the same with Ack.
func told(mask int) []byte     { return []byte{1, byte(mask)} }
func answered(mask int) []byte { return []byte{1, byte(mask + ack)} }

// noBodies is bytes that are too few, or too many: among them such that would be
// a body, if some weren't looked at, and such of which more is wrong.
func noBodies() [][]byte {
	list := [][]byte{nil, {}}
	for c := range 256 {
		b := byte(c)
		list = append(list, []byte{b}, []byte{1, 1, b}, []byte{1, 5, b}, []byte{b, 1, 1}, []byte{1, b, 0}, []byte{b, b, b})
	}
	for _, n := range []int{4, 5, 6, 255, 256, 257, 258, 259, 512, 514, 65536, 65538} {
		list = append(list, bytes.Repeat([]byte{1}, n), make([]byte, n), append([]byte{1, 4}, make([]byte, n-2)...))
	}
	return list
}

// bodies is bytes of each length: of two bytes each that begin with 1, and of
// those that don't such with each first byte.
func bodies() [][]byte {
	list := noBodies()
	for c := range 256 {
		b := byte(c)
		list = append(list, []byte{1, b}, []byte{b, b})
		for _, second := range []byte{0, 1, 4, 5, 27, 31, 32, 36, 64, 128, 255} {
			list = append(list, []byte{b, second})
		}
	}
	return list
}

// isError is whether an error is the one that is asked for.
func isError(got, want error) bool {
	if want == nil {
		return got == nil
	}
	return errors.Is(got, want)
}

// given is bytes, and the same with room behind them that isn't theirs.
func given(b []byte) (theirs, all []byte) {
	all = slices.Concat(b, []byte("####"))
	return all[:len(b)], all
}

// scribble writes over bytes, and over the room behind them.
func scribble(b []byte) {
	b = b[:cap(b)]
	for i := range b {
		b[i] = '?'
	}
}

// head is a head and what it should have; it is asked what the model is asked.
type head struct {
	t     *testing.T
	is    *mode.Head
	mask  int
	waits bool
}

func newHead(t *testing.T) *head {
	t.Helper()
	h := &head{t: t, is: mode.NewHead()}
	if h.is == nil {
		t.Fatal("NewHead: nil")
	}
	h.same()
	return h
}

// same holds what a head tells of itself against the model; asking turns nothing.
func (h *head) same() {
	h.t.Helper()
	for range 2 {
		if mask, waits := h.is.Mask(), h.is.Waits(); mask != h.mask || waits != h.waits {
			h.t.Fatalf("it has %d, %v, not %d, %v", mask, waits, h.mask, h.waits)
		}
	}
}

// wantSet is what Set should answer.
func (h *head) wantSet(mask int) ([]byte, error) {
	switch {
	case !isMask(mask):
		return nil, api.ErrForm
	case h.waits:
		return nil, api.ErrState
	case mask == h.mask:
		return nil, api.ErrDup
	}
	h.mask, h.waits = mask, true
	return told(mask), nil
}

// set sets a mask of both: the body that is to be told, if there is one. Writing
// over the row changes nothing.
func (h *head) set(mask int) []byte {
	h.t.Helper()
	had, waited := h.mask, h.waits
	want, wantErr := h.wantSet(mask)
	got, err := h.is.Set(mask)
	if !bytes.Equal(got, want) || !isError(err, wantErr) {
		h.t.Fatalf("Set of %d, where it has %d, %v: % x, %v, not % x, %v", mask, had, waited, got, err, want, wantErr)
	}
	scribble(got)
	h.same()
	return want
}

// wantHear is what Hear should answer.
func (h *head) wantHear(b []byte) error {
	mask, is, err := parsed(b)
	switch {
	case err != nil:
		return err
	case !is || !h.waits:
		return api.ErrState
	}
	h.mask, h.waits = mask, false
	return nil
}

// hear lets both hear a body. What it was given isn't changed, nor kept.
func (h *head) hear(b []byte) {
	h.t.Helper()
	had, waited := h.mask, h.waits
	want := h.wantHear(b)
	theirs, all := given(b)
	if err := h.is.Hear(theirs); !isError(err, want) {
		h.t.Fatalf("Hear of % .60x, where it has %d, %v: %v, not %v", b, had, waited, err, want)
	}
	if string(all) != string(b)+"####" {
		h.t.Fatalf("Hear changed what it was given: % .60x, it was % .60x", all, b)
	}
	scribble(all)
	h.same()
}

// headAt is a head that has a mask, waiting or not.
func headAt(t *testing.T, mask int, waits bool) *head {
	t.Helper()
	h := newHead(t)
	if mask == 0 && waits { // it can't be set at first
		h.set(trap)
		h.hear(answered(trap))
	}
	if mask != 0 || waits {
		h.set(mask)
	}
	if mask != 0 && !waits {
		h.hear(answered(mask))
	}
	if h.mask != mask || h.waits != waits {
		t.Fatalf("the head isn't at %d, %v", mask, waits)
	}
	return h
}

// headsAt goes through all that a head can have, waiting or not.
func headsAt(t *testing.T, do func(fresh func() *head)) {
	t.Helper()
	for _, mask := range masks() {
		for _, waits := range []bool{false, true} {
			do(func() *head { return headAt(t, mask, waits) })
		}
	}
}

// tail is a tail and what it should have; it is asked what the model is asked.
type tail struct {
	t         *testing.T
	is        *mode.Tail
	can, mask int
}

func newTail(t *testing.T, can int) *tail {
	t.Helper()
	l := &tail{t: t, is: mode.NewTail(can), can: can}
	if l.is == nil {
		t.Fatalf("NewTail of %d: nil", can)
	}
	l.same()
	return l
}

// same holds what a tail tells of itself against the model; asking turns nothing.
func (l *tail) same() {
	l.t.Helper()
	for range 2 {
		if mask := l.is.Mask(); mask != l.mask {
			l.t.Fatalf("a tail that can do %d has %d, not %d", l.can, mask, l.mask)
		}
	}
}

// wantHear is what Hear should answer.
func (l *tail) wantHear(b []byte) ([]byte, error) {
	mask, is, err := parsed(b)
	switch {
	case err != nil:
		return nil, err
	case is:
		return nil, api.ErrState
	}
	l.mask = takes(l.can, mask)
	return answered(l.mask), nil
}

// hear lets both hear a body: the one that is to be told, if there is one. What
// it was given isn't changed, nor kept; writing over the row changes nothing.
func (l *tail) hear(b []byte) []byte {
	l.t.Helper()
	had := l.mask
	want, wantErr := l.wantHear(b)
	theirs, all := given(b)
	got, err := l.is.Hear(theirs)
	if string(all) != string(b)+"####" {
		l.t.Fatalf("Hear changed what it was given: % .60x, it was % .60x", all, b)
	}
	scribble(all)
	if !bytes.Equal(got, want) || !isError(err, wantErr) {
		l.t.Fatalf("Hear of % .60x, where a tail that can do %d has %d: % x, %v, not % x, %v", b, l.can, had, got, err, want, wantErr)
	}
	scribble(got)
	l.same()
	return want
}

// mustRead holds Parse of bytes against the model: it changes nothing of what it
// is given, nor of the room behind.
func mustRead(t *testing.T, b []byte) {
	t.Helper()
	theirs, all := given(b)
	mask, is, err := mode.Parse(theirs)
	if string(all) != string(b)+"####" {
		t.Fatalf("Parse changed what it was given: % .60x, it was % .60x", all, b)
	}
	wantMask, wantIs, wantErr := parsed(b)
	if mask != wantMask || is != wantIs || !isError(err, wantErr) {
		t.Fatalf("Parse of % .60x: %d, %v, %v, not %d, %v, %v", b, mask, is, err, wantMask, wantIs, wantErr)
	}
}

func TestNumbers(t *testing.T) {
	got := []int{mode.Edit, mode.Trap, mode.Ack, mode.Soft, mode.Lit}
	if !slices.Equal(got, []int{edit, trap, ack, soft, lit}) {
		t.Errorf("the bits are %v", got)
	}
}

func TestExample(t *testing.T) {
	h, l := mode.NewHead(), mode.NewTail(mode.Edit)
	b, err := h.Set(mode.Edit | mode.Soft)
	if err != nil || !bytes.Equal(b, []byte{1, 9}) || h.Mask() != 9 || !h.Waits() {
		t.Fatalf("Set: % x, %v; it has %d, %v", b, err, h.Mask(), h.Waits())
	}
	b, err = l.Hear(b)
	if err != nil || !bytes.Equal(b, []byte{1, 5}) || l.Mask() != mode.Edit {
		t.Fatalf("the tail's Hear: % x, %v; it has %d", b, err, l.Mask())
	}
	if err = h.Hear(b); err != nil || h.Mask() != mode.Edit || h.Waits() {
		t.Fatalf("the head's Hear: %v; it has %d, %v", err, h.Mask(), h.Waits())
	}
}

// P15.1: Right of each number from -300 to 300, and of such as are far.
func TestRight(t *testing.T) {
	for _, n := range numbers() {
		if got := mode.Right(n); got != isMask(n) {
			t.Errorf("Right of %d: %v", n, got)
		}
	}
	for _, n := range []int{4, 5, 6, 7, 12, 13, 14, 15, 20, 21, 22, 23, 28, 29, 30, 31, 32, 33, 59, -1, -4, -5} {
		if mode.Right(n) {
			t.Errorf("%d is a mask", n)
		}
	}
}

// P15.1: Words of each mask, and of numbers that are none.
func TestWords(t *testing.T) {
	words := inWords()
	if len(words) != len(masks()) {
		t.Fatalf("there are words of %d masks", len(words))
	}
	for _, n := range numbers() {
		if got := mode.Words(n); got != words[n] {
			t.Errorf("Words of %d: %q, not %q", n, got, words[n])
		}
	}
}

// P15.1: Parse of no bytes, of one, and of three and more.
func TestParseOfNoBody(t *testing.T) {
	for _, b := range noBodies() {
		mustRead(t, b)
	}
	for _, row := range []struct {
		b   []byte
		err error
	}{
		{nil, api.ErrShort},
		{[]byte{1}, api.ErrShort},
		{[]byte{2}, api.ErrShort},
		{[]byte{1, 3, 0}, api.ErrLong},
		{[]byte{2, 3, 0}, api.ErrLong},
		{[]byte{1, 32, 0}, api.ErrLong},
		{[]byte{2, 3}, api.ErrKind},
		{[]byte{0, 32}, api.ErrKind},
		{[]byte{255, 255}, api.ErrKind},
		{[]byte{1, 32}, api.ErrForm},
		{[]byte{1, 36}, api.ErrForm},
		{[]byte{1, 255}, api.ErrForm},
	} {
		if mask, is, err := mode.Parse(row.b); mask != 0 || is || !errors.Is(err, row.err) {
			t.Errorf("Parse of % x: %d, %v, %v, not %v", row.b, mask, is, err, row.err)
		}
	}
}

// P15.1: Parse of all that has two bytes.
func TestParseOfTwo(t *testing.T) {
	for first := range 256 {
		for second := range 256 {
			mustRead(t, []byte{byte(first), byte(second)})
		}
	}
	for _, m := range masks() {
		if mask, is, err := mode.Parse([]byte{1, byte(m)}); mask != m || is || err != nil {
			t.Errorf("Parse of the mask %d: %d, %v, %v", m, mask, is, err)
		}
		if mask, is, err := mode.Parse([]byte{1, byte(m + 4)}); mask != m || !is || err != nil {
			t.Errorf("Parse of the mask %d with Ack: %d, %v, %v", m, mask, is, err)
		}
	}
}

// P15.1: a new head has the mask 0, and doesn't wait.
func TestNewHead(t *testing.T) {
	h := newHead(t)
	if h.is.Mask() != 0 || h.is.Waits() {
		t.Errorf("it has %d, %v", h.is.Mask(), h.is.Waits())
	}
	if newHead(t).is == h.is {
		t.Error("two heads are one")
	}
}

// P15.1: Set of each number, whatever the head has, waiting or not.
func TestSet(t *testing.T) {
	list := append(masks(), noMasks()...)
	headsAt(t, func(fresh func() *head) {
		h := fresh()
		for _, n := range list {
			if h.set(n); h.waits {
				h = fresh()
			}
		}
	})
}

// P15.1: which error Set tells, where two would be true; nothing turns then.
func TestSetErrors(t *testing.T) {
	for _, row := range []struct {
		h    *head
		mask int
		err  error
	}{
		{headAt(t, 0, false), 4, api.ErrForm},
		{headAt(t, 9, false), 13, api.ErrForm},
		{headAt(t, 0, false), 0, api.ErrDup},
		{headAt(t, 27, false), 27, api.ErrDup},
		{headAt(t, 9, true), 13, api.ErrForm},
		{headAt(t, 9, true), -1, api.ErrForm},
		{headAt(t, 9, true), 32, api.ErrForm},
		{headAt(t, 9, true), 9, api.ErrState},
		{headAt(t, 9, true), 0, api.ErrState},
		{headAt(t, 0, true), 0, api.ErrState},
		{headAt(t, 0, true), 1, api.ErrState},
	} {
		b, err := row.h.is.Set(row.mask)
		if len(b) != 0 || !errors.Is(err, row.err) {
			t.Errorf("Set of %d: % x, %v, not %v", row.mask, b, err, row.err)
		}
		row.h.same()
	}
}

// P15.1: what Set answered isn't changed by what is set later.
func TestSetRows(t *testing.T) {
	h := newHead(t)
	var rows [][]byte
	order := append(masks()[1:], masks()...)
	for _, m := range order {
		b, err := h.is.Set(m)
		if err != nil {
			t.Fatalf("Set of %d: %v", m, err)
		}
		rows = append(rows, b)
		if err := h.is.Hear(answered(m)); err != nil {
			t.Fatalf("Hear: %v", err)
		}
	}
	for i, b := range rows {
		if !bytes.Equal(b, told(order[i])) {
			t.Fatalf("the row of %d is % x", order[i], b)
		}
		scribble(b)
	}
}

// P15.1: the head's Hear of each body, whatever the head has, waiting or not.
func TestHeadHears(t *testing.T) {
	list := bodies()
	headsAt(t, func(fresh func() *head) {
		h := fresh()
		waits := h.waits
		for _, b := range list {
			if h.hear(b); h.waits != waits {
				h = fresh()
			}
		}
	})
}

// P15.1: what the head hears, by rows that are written down.
func TestHeadHearsWrittenDown(t *testing.T) {
	for _, row := range []struct {
		b     []byte
		err   error
		mask  int
		waits bool
	}{
		{[]byte{1, 4}, nil, 0, false},
		{[]byte{1, 5}, nil, 1, false},
		{[]byte{1, 13}, nil, 9, false},
		{[]byte{1, 31}, nil, 27, false},
		{[]byte{1, 22}, nil, 18, false},
		{[]byte{1, 9}, api.ErrState, 9, true},
		{[]byte{1, 0}, api.ErrState, 9, true},
		{[]byte{1, 32}, api.ErrForm, 9, true},
		{[]byte{1, 45}, api.ErrForm, 9, true},
		{[]byte{2, 13}, api.ErrKind, 9, true},
		{[]byte{1}, api.ErrShort, 9, true},
		{[]byte{1, 13, 0}, api.ErrLong, 9, true},
	} {
		h := headAt(t, 9, true).is
		if err := h.Hear(row.b); !isError(err, row.err) || h.Mask() != row.mask || h.Waits() != row.waits {
			t.Errorf("Hear of % x: %v; it has %d, %v", row.b, err, h.Mask(), h.Waits())
		}
		h = headAt(t, 9, false).is
		want := row.err
		if want == nil {
			want = api.ErrState
		}
		if err := h.Hear(row.b); !errors.Is(err, want) || h.Mask() != 9 || h.Waits() {
			t.Errorf("Hear of % x, not waiting: %v; it has %d, %v", row.b, err, h.Mask(), h.Waits())
		}
	}
}

// P15.1: which bits a tail of each number can do; it has 0 at first.
func TestNewTail(t *testing.T) {
	for _, can := range numbers() {
		l := newTail(t, can)
		for _, m := range slices.Concat([]int{27}, masks()) {
			l.hear(told(m))
		}
	}
	for _, row := range []struct{ can, all int }{
		{0, 0}, {1, 1}, {2, 2}, {3, 3}, {8, 8}, {16, 16}, {19, 19}, {24, 24}, {27, 27},
		{4, 0}, {5, 1}, {6, 2}, {12, 8}, {20, 16}, {23, 19}, {28, 24}, {31, 27},
		{32, 0}, {33, 1}, {36, 0}, {59, 27}, {64, 0}, {128, 0}, {255, 27}, {256, 0}, {259, 3},
		{-1, 27}, {-2, 26}, {-4, 24}, {-5, 27}, {-28, 0}, {-32, 0}, {-256, 0},
		{math.MaxInt, 27}, {math.MinInt, 0}, {math.MinInt + 9, 9}, {1 << 32, 0}, {1<<32 + 18, 18}, {-1 << 32, 0},
	} {
		l := mode.NewTail(row.can)
		b, err := l.Hear([]byte{1, 27})
		if err != nil || !bytes.Equal(b, []byte{1, byte(row.all + 4)}) || l.Mask() != row.all {
			t.Errorf("a tail that can do %d: % x, %v, it has %d, not %d", row.can, b, err, l.Mask(), row.all)
		}
	}
}

// tailsAt goes through all tails that can do a mask's bits, with all that each
// can have.
func tailsAt(t *testing.T, do func(fresh func() *tail)) {
	t.Helper()
	for _, can := range masks() {
		for _, mask := range masks() {
			if takes(can, mask) != mask {
				continue
			}
			do(func() *tail {
				l := newTail(t, can)
				l.hear(told(mask))
				return l
			})
		}
	}
}

// P15.1: the tail's Hear of each body, whatever it can do, and has.
func TestTailHears(t *testing.T) {
	list := bodies()
	tailsAt(t, func(fresh func() *tail) {
		l := fresh()
		mask := l.mask
		for _, b := range list {
			if l.hear(b); l.mask != mask {
				l = fresh()
			}
		}
	})
}

// P15.1: what the tail hears, by rows that are written down.
func TestTailHearsWrittenDown(t *testing.T) {
	for _, row := range []struct {
		b, told []byte
		err     error
		mask    int
	}{
		{[]byte{1, 0}, []byte{1, 4}, nil, 0},
		{[]byte{1, 1}, []byte{1, 5}, nil, 1},
		{[]byte{1, 2}, []byte{1, 4}, nil, 0},
		{[]byte{1, 8}, []byte{1, 12}, nil, 8},
		{[]byte{1, 16}, []byte{1, 4}, nil, 0},
		{[]byte{1, 26}, []byte{1, 12}, nil, 8},
		{[]byte{1, 27}, []byte{1, 13}, nil, 9},
		{[]byte{1, 4}, nil, api.ErrState, 8},
		{[]byte{1, 5}, nil, api.ErrState, 8},
		{[]byte{1, 31}, nil, api.ErrState, 8},
		{[]byte{1, 32}, nil, api.ErrForm, 8},
		{[]byte{1, 37}, nil, api.ErrForm, 8},
		{[]byte{0, 1}, nil, api.ErrKind, 8},
		{[]byte{2, 5}, nil, api.ErrKind, 8},
		{[]byte{1}, nil, api.ErrShort, 8},
		{nil, nil, api.ErrShort, 8},
		{[]byte{1, 1, 1}, nil, api.ErrLong, 8},
		{[]byte{3, 5, 1}, nil, api.ErrLong, 8},
	} {
		l := mode.NewTail(9)
		if _, err := l.Hear([]byte{1, 10}); err != nil || l.Mask() != 8 {
			t.Fatalf("Hear: %v, it has %d", err, l.Mask())
		}
		b, err := l.Hear(row.b)
		if !bytes.Equal(b, row.told) || !isError(err, row.err) || l.Mask() != row.mask {
			t.Errorf("Hear of % x: % x, %v, it has %d", row.b, b, err, l.Mask())
		}
	}
}

// P15.1: what the tail answered isn't changed by what it hears later, nor is it
// what it was given.
func TestTailRows(t *testing.T) {
	l := mode.NewTail(19)
	var rows [][]byte
	for _, m := range masks() {
		body := told(m)
		b, err := l.Hear(body)
		if err != nil {
			t.Fatalf("Hear of %d: %v", m, err)
		}
		scribble(body)
		rows = append(rows, b)
	}
	for i, b := range rows {
		if want := answered(takes(19, masks()[i])); !bytes.Equal(b, want) {
			t.Fatalf("the row of %d is % x, not % x", masks()[i], b, want)
		}
		scribble(b)
	}
	if l.Mask() != 19 {
		t.Errorf("it has %d", l.Mask())
	}
}

// P15.2: heads and tails share nothing.
func TestApart(t *testing.T) {
	heads := []*head{newHead(t), newHead(t), newHead(t)}
	tails := []*tail{newTail(t, 27), newTail(t, 27), newTail(t, 10), newTail(t, 0)}
	others := func() {
		t.Helper()
		for _, h := range heads {
			h.same()
		}
		for _, l := range tails {
			l.same()
		}
	}
	for i, m := range append(masks()[1:], masks()...) {
		heads[i%3].set(m)
		others()
		tails[i%4].hear(told(m))
		others()
		if i%2 == 0 {
			heads[i%3].hear(answered(takes(9, m)))
			others()
		}
	}
	waiting := 0
	for _, h := range heads {
		if h.waits {
			waiting++
		}
	}
	if waiting == 0 || waiting == 3 {
		t.Errorf("%d heads wait", waiting)
	}
}

// joined is a head and a tail; what one tells comes to the other one, in order.
type joined struct {
	t        *testing.T
	h        *head
	l        *tail
	toH, toL [][]byte // what is on its way to each
	story    []string
}

func join(t *testing.T, can int) *joined {
	t.Helper()
	return &joined{t: t, h: newHead(t), l: newTail(t, can)}
}

// An act is a mask that is set, or one of these.
const (
	headHears = -1000 - iota
	tailHears
)

// does does an act, if it can be done.
func (j *joined) does(act int) {
	j.t.Helper()
	j.story = append(j.story, fmt.Sprint(act))
	switch {
	case act == headHears && len(j.toH) > 0:
		j.h.hear(j.toH[0])
		j.toH = j.toH[1:]
	case act == tailHears && len(j.toL) > 0:
		j.tells(&j.toH, j.l.hear(j.toL[0]))
		j.toL = j.toL[1:]
	case act != headHears && act != tailHears:
		j.tells(&j.toL, j.h.set(act))
	}
}

// tells puts what is told, if there is something, on its way.
func (j *joined) tells(row *[][]byte, b []byte) {
	if len(b) > 0 {
		*row = append(*row, b)
	}
}

// resting tells whether nothing is on its way; then both must have the same, and
// the head doesn't wait.
func (j *joined) resting() bool {
	j.t.Helper()
	if len(j.toH)+len(j.toL) > 0 {
		return false
	}
	if j.h.is.Mask() != j.l.is.Mask() || j.h.is.Waits() {
		j.t.Fatalf("at rest, they have %d, %v, and %d: %q", j.h.is.Mask(), j.h.is.Waits(), j.l.is.Mask(), j.story)
	}
	return true
}

// rest lets both hear, in an order that pick tells, till nothing is on its way.
func (j *joined) rest(pick func() int) {
	j.t.Helper()
	for n := 0; !j.resting(); n++ {
		if n > 1000 {
			j.t.Fatalf("they don't come to rest: %q", j.story)
		}
		j.does(pick())
	}
}

// picks is orders of hearing: each one begins with another side.
func picks() []func() int {
	var list []func() int
	for _, first := range []int{headHears, tailHears} {
		next := first
		list = append(list, func() int {
			now := next
			next = headHears + tailHears - now
			return now
		})
	}
	return list
}

// P15.2: what both have, when a mask was set, of each mask, whatever the tail can
// do, and what both had; others are set before the answer comes, too.
func TestJoinedOne(t *testing.T) {
	for _, can := range append(masks(), 4, 31, 32, -1, -28) {
		for _, had := range masks() {
			for _, m := range masks() {
				for i, pick := range picks() {
					j := join(t, can)
					j.does(had)
					j.rest(pick)
					if j.does(m); j.h.waits {
						j.does(masks()[(i+m)%16])
						j.does(tailHears)
						j.does(masks()[(i+had)%16])
					}
					j.rest(pick)
					if want := takes(can, m); j.h.is.Mask() != want || j.l.is.Mask() != want {
						t.Fatalf("a tail that can do %d, %d is set: both have %d", can, m, j.h.is.Mask())
					}
				}
			}
		}
	}
}

// P15.2: what both have, by rows that are written down.
func TestJoinedWrittenDown(t *testing.T) {
	for _, row := range []struct{ can, set, then int }{
		{27, 27, 27}, {27, 0, 0}, {0, 27, 0}, {1, 9, 1}, {1, 8, 0}, {10, 27, 10}, {10, 17, 0},
		{16, 24, 16}, {18, 16, 16}, {3, 2, 2}, {8, 11, 8}, {31, 27, 27}, {4, 27, 0}, {-1, 19, 19},
	} {
		for _, pick := range picks() {
			j := join(t, row.can)
			j.does(row.set)
			j.rest(pick)
			if j.h.is.Mask() != row.then || j.l.is.Mask() != row.then {
				t.Errorf("%v: both have %d, %d", row, j.h.is.Mask(), j.l.is.Mask())
			}
		}
	}
}

// key tells where a pair is that is the same to all that comes.
func (j *joined) key() string {
	return fmt.Sprint(j.h.mask, j.h.waits, j.l.mask, j.toH, j.toL)
}

// P15.2: all that can come of whatever is set, and read, in every order, whatever
// the tail can do: from everywhere both come to rest.
func TestJoinedAll(t *testing.T) {
	all := append(masks(), 4, 15, 32, -1, headHears, tailHears)
	states := 0
	for _, can := range masks() {
		list, seen := [][]int{nil}, map[string]bool{}
		for i := 0; i < len(list); i++ {
			for _, pick := range picks() {
				replay(t, can, list[i]).rest(pick)
			}
			for _, act := range all {
				acts := append(slices.Clone(list[i]), act)
				if key := replay(t, can, acts).key(); !seen[key] {
					seen[key] = true
					list = append(list, acts)
				}
			}
		}
		states += len(list)
	}
	if states < 1000 {
		t.Errorf("there were but %d states", states)
	}
}

// replay is a pair to which acts were done.
func replay(t *testing.T, can int, acts []int) *joined {
	t.Helper()
	j := join(t, can)
	for _, act := range acts {
		j.does(act)
		j.resting()
	}
	return j
}

// number is a number by chance, mostly a mask.
func number(chance *rand.Rand) int {
	if chance.Intn(10) == 0 {
		list := noMasks()
		return list[chance.Intn(len(list))]
	}
	return masks()[chance.Intn(16)]
}

// body is bytes by chance, mostly a body.
func body(chance *rand.Rand) []byte {
	switch chance.Intn(12) {
	case 0:
		b := make([]byte, chance.Intn(5))
		for i := range b {
			b[i] = byte(chance.Intn(40))
		}
		return b
	case 1:
		return []byte{byte(chance.Intn(256)), byte(chance.Intn(256))}
	case 2, 3, 4, 5, 6:
		return answered(masks()[chance.Intn(16)])
	}
	return told(masks()[chance.Intn(16)])
}

// P15.2: many masks are set while both hear in any order.
func TestJoinedLong(t *testing.T) {
	for run := range 200 {
		chance := rand.New(rand.NewSource(int64(1500 + run)))
		j := join(t, number(chance))
		hearing := 1 + chance.Intn(4)
		for range chance.Intn(300) {
			act := number(chance)
			if chance.Intn(5) < hearing {
				act = headHears - chance.Intn(2)
			}
			j.does(act)
			j.resting()
		}
		j.rest(func() int { return headHears - chance.Intn(2) })
	}
}

// P15.1: long runs of all calls by chance, in every order, of several heads and
// tails, what one tells being heard, or not.
func TestLongRuns(t *testing.T) {
	words := inWords()
	for run := range 100 {
		chance := rand.New(rand.NewSource(int64(2500 + run)))
		heads := []*head{newHead(t), newHead(t)}
		tails := []*tail{newTail(t, number(chance)), newTail(t, number(chance))}
		var rows [][]byte
		for range 500 {
			b, n, i := body(chance), number(chance), chance.Intn(2)
			if len(rows) > 0 && chance.Intn(3) == 0 {
				b, rows = rows[0], rows[1:]
			}
			switch chance.Intn(6) {
			case 0, 1:
				rows = append(rows, heads[i].set(n))
			case 2:
				heads[i].hear(b)
			case 3:
				rows = append(rows, tails[i].hear(b))
			case 4:
				mustRead(t, b)
			default:
				if got, text := mode.Right(n), mode.Words(n); got != isMask(n) || text != words[n] {
					t.Fatalf("Right of %d: %v; Words: %q", n, got, text)
				}
			}
			heads[1-i].same()
			tails[1-i].same()
		}
	}
}

// No numbers and no bytes make a call panic, or are answered otherwise than they
// should be.
func FuzzCalls(f *testing.F) {
	f.Add(1, 9, 27, []byte{1, 5}, []byte{1, 9})
	f.Add(-1, 0, 4, []byte{1, 4}, []byte{})
	f.Add(math.MinInt, 32, math.MaxInt, []byte{1, 31}, []byte{1, 31, 0})
	f.Fuzz(func(t *testing.T, can, one, two int, b, c []byte) {
		h, l := newHead(t), newTail(t, can)
		for range 2 {
			for _, n := range []int{one, two, can} {
				h.hear(l.hear(h.set(n)))
				h.set(n)
				if got := mode.Right(n); got != isMask(n) || mode.Words(n) != inWords()[n] {
					t.Fatalf("Right of %d: %v; Words: %q", n, got, mode.Words(n))
				}
			}
			for _, x := range [][]byte{b, c} {
				h.hear(x)
				l.hear(x)
				mustRead(t, x)
			}
		}
	})
}
