package slc_test

import (
	"bytes"
	"errors"
	"fmt"
	"math"
	"math/rand"
	"slices"
	"testing"

	"truchman/api"
	"truchman/slc"
)

// The levels by their numbers, as the chapter has them.
const (
	none = 0
	cant = 1
	val  = 2
	deft = 3
)

// set is a setting.
func set(level, value int) slc.Setting { return slc.Setting{Level: level, Value: value} }

// triple is a triple that is no Ack.
func triple(function, level, value int) slc.Triple {
	return slc.Triple{Function: function, Setting: set(level, value)}
}

// ack is a triple that is an Ack.
func ack(function, level, value int) slc.Triple {
	return slc.Triple{Function: function, Setting: set(level, value), Ack: true}
}

// functions is all functions.
func functions() []int {
	var list []int
	for f := 1; f <= 18; f++ {
		list = append(list, f)
	}
	return list
}

// noFunctions is numbers that are no functions: around those that are, far
// beyond them, and such as could be mistaken for one of them.
func noFunctions() []int {
	list := []int{
		math.MinInt, math.MinInt + 1, math.MinInt + 18, math.MinInt32, math.MinInt16, math.MinInt8, -1 << 32, -1<<32 + 3,
		math.MaxInt, math.MaxInt - 1, math.MaxInt32, math.MaxUint32, 1 << 16, 1<<16 + 1, 1<<32 + 1, 1<<32 + 18, 1<<33 + 5,
	}
	for n := 0; n < 300; n++ {
		list = append(list, -n, 19+n)
	}
	return list
}

// noLevels is numbers that are no levels.
func noLevels() []int {
	list := []int{
		math.MinInt, math.MinInt + 1, math.MinInt + 2, math.MinInt32, -1 << 32, -1<<32 + 2, -1 << 8, -254,
		math.MaxInt, math.MaxInt - 1, math.MaxInt32, 1 << 8, 1<<8 + 1, 1<<8 + 2, 1<<8 + 3, 1 << 16, 1<<32 + 1, 1<<32 + 2,
	}
	for n := 4; n < 260; n++ {
		list = append(list, n, 3-n)
	}
	return list
}

// noBytes is numbers that are no bytes.
func noBytes() []int {
	return []int{
		-1, -2, -128, -255, -256, math.MinInt8, math.MinInt32, -1 << 32, -1<<32 + 7, math.MinInt, math.MinInt + 1,
		256, 257, 258, 511, 512, 1 << 16, 1<<16 + 9, math.MaxInt32, 1 << 32, 1<<32 + 1, math.MaxInt,
	}
}

// noSettings is settings that aren't right.
func noSettings() []slc.Setting {
	var list []slc.Setting
	for _, level := range noLevels() {
		list = append(list, set(level, 0), set(level, 1), set(level, 255), set(level, level))
	}
	for _, v := range noBytes() {
		list = append(list, set(none, v), set(cant, v), set(val, v), set(deft, v))
	}
	for v := 1; v < 256; v++ {
		list = append(list, set(none, v), set(deft, v))
	}
	return list
}

// isSetting is whether a setting should be right.
func isSetting(x slc.Setting) bool {
	if x == set(none, 0) || x == set(deft, 0) {
		return true
	}
	return (x.Level == cant || x.Level == val) && x.Value == int(byte(x.Value))
}

// isTriple is whether a triple should be right.
func isTriple(t slc.Triple) bool {
	return slices.Contains(functions(), t.Function) && isSetting(t.Setting)
}

// plain is a side, told plainly: of a function that isn't there it has, or
// holds, None, and doesn't wait.
type plain struct {
	has, holds map[int]slc.Setting
	waits      map[int]bool
}

func newPlain(holds []slc.Setting) plain {
	p := plain{map[int]slc.Setting{}, map[int]slc.Setting{}, map[int]bool{}}
	for i, x := range holds {
		if i < 18 && isSetting(x) && x.Level != deft {
			p.holds[i+1] = x
		}
	}
	return p
}

// copied is the same side, apart from the first one.
func (p plain) copied() plain {
	c := newPlain(nil)
	for _, f := range functions() {
		c.has[f], c.holds[f], c.waits[f] = p.has[f], p.holds[f], p.waits[f]
	}
	return c
}

// outcomes is the chapter's rows, by the level that is heard and by that of what
// is held.
var outcomes = [4][3]string{
	none: {"it, as an Ack", "it, as an Ack", "it, as an Ack"},
	cant: {"None", "None", "it, as an Ack"},
	val:  {"what it holds", "what it holds", "it, as an Ack"},
	deft: {"what it holds", "what it holds", "what it holds"},
}

// hear is what Hear should do.
func (p plain) hear(t slc.Triple) (slc.Triple, bool) {
	if !isTriple(t) {
		return slc.Triple{}, false
	}
	f := t.Function
	p.waits[f] = false
	if t.Ack || t.Setting == p.has[f] {
		return slc.Triple{}, false
	}
	told := slc.Triple{Function: f}
	switch outcomes[t.Setting.Level][p.holds[f].Level] {
	case "it, as an Ack":
		told.Setting, told.Ack = t.Setting, true
	case "what it holds":
		told.Setting = p.holds[f]
	}
	p.has[f] = told.Setting
	return told, true
}

// ask is what Ask should do.
func (p plain) ask(f int, x slc.Setting) (slc.Triple, error) {
	switch {
	case f < 1 || f > 18:
		return slc.Triple{}, api.ErrRange
	case !isSetting(x) || x.Level == none:
		return slc.Triple{}, api.ErrForm
	case p.waits[f]:
		return slc.Triple{}, api.ErrState
	case p.has[f] == x:
		return slc.Triple{}, api.ErrDup
	}
	p.waits[f] = true
	if x.Level != deft {
		p.has[f] = x
	}
	return slc.Triple{Function: f, Setting: x}, nil
}

// count is what Waits should be.
func (p plain) count() int {
	n := 0
	for _, f := range functions() {
		if p.waits[f] {
			n++
		}
	}
	return n
}

// both is a side and its model, asked the same.
type both struct {
	t  *testing.T
	is *slc.Side
	p  plain
}

func newBoth(t *testing.T, holds ...slc.Setting) both {
	t.Helper()
	b := both{t, slc.New(holds), newPlain(holds)}
	if b.is == nil {
		t.Fatalf("New of %v: nil", holds)
	}
	b.same()
	return b
}

// same holds all that a side tells of itself against the model. (Which functions
// it waits for is told by what Ask answers, where the model asks.)
func (b both) same() {
	b.t.Helper()
	for f := -1; f <= 20; f++ {
		if got := b.is.Has(f); got != b.p.has[f] {
			b.t.Fatalf("Has of %d: %v, not %v", f, got, b.p.has[f])
		}
	}
	if got, want := b.is.Waits(), b.p.count(); got != want {
		b.t.Fatalf("Waits: %d, not %d", got, want)
	}
}

// hear lets both hear a triple.
func (b both) hear(t slc.Triple) (slc.Triple, bool) {
	b.t.Helper()
	want, wantIs := b.p.hear(t)
	got, is := b.is.Hear(t)
	if got != want || is != wantIs {
		b.t.Fatalf("Hear of %v: %v, %v, not %v, %v", t, got, is, want, wantIs)
	}
	b.same()
	return got, is
}

// ask asks both.
func (b both) ask(f int, x slc.Setting) (slc.Triple, error) {
	b.t.Helper()
	want, wantErr := b.p.ask(f, x)
	got, err := b.is.Ask(f, x)
	if got != want || wantErr == nil && err != nil || wantErr != nil && !errors.Is(err, wantErr) {
		b.t.Fatalf("Ask of %d and %v: %v, %v, not %v, %v", f, x, got, err, want, wantErr)
	}
	b.same()
	return got, err
}

// bring brings a function to what both have then, waiting or not: asking leads
// there, and an Ack ends the waiting.
func (b both) bring(f int, has slc.Setting, waits bool) {
	b.t.Helper()
	b.hear(ack(f, none, 0))
	if has.Level == none {
		b.hear(triple(f, none, 0))
	} else if b.is.Has(f) != has {
		b.ask(f, has)
	}
	b.hear(ack(f, deft, 0))
	if waits && has.Level == none {
		b.ask(f, set(deft, 0))
	} else if waits {
		b.hear(triple(f, none, 0))
		b.ask(f, has)
	}
	if b.is.Has(f) != has || b.p.waits[f] != waits {
		b.t.Fatalf("%d isn't brought to %v, %v", f, has, waits)
	}
}

// waitsFor holds whether a side waits for a function: asking tells it, done to a
// side that isn't needed any more.
func (b both) waitsFor(f int, want bool) {
	b.t.Helper()
	_, err := b.is.Ask(f, set(deft, 0))
	if got := errors.Is(err, api.ErrState); got != want {
		b.t.Fatalf("it waits for %d: %v, not %v", f, got, want)
	}
}

// few is settings that a side can have and hold, of each level, with values at
// the edges.
func few() []slc.Setting {
	return []slc.Setting{set(none, 0), set(cant, 0), set(cant, 3), set(cant, 255), set(val, 0), set(val, 3), set(val, 4), set(val, 255)}
}

// at is the settings of a side that holds x of the function f, and of the others
// settings of all levels.
func at(f int, x slc.Setting) []slc.Setting {
	list := mixed(18)
	list[f-1] = x
	return list
}

// mixed is so many settings that can be held, of all levels in turn.
func mixed(n int) []slc.Setting {
	var list []slc.Setting
	for i := range n {
		list = append(list, []slc.Setting{set(val, i%256), set(cant, (i+1)%256), set(none, 0)}[i%3])
	}
	return list
}

func TestNumbers(t *testing.T) {
	for i, n := range []int{slc.None, slc.Cant, slc.Value, slc.Default} {
		if n != i {
			t.Errorf("the level %d is %d", i, n)
		}
	}
	if slc.Functions != 18 {
		t.Errorf("%d functions", slc.Functions)
	}
}

func TestExample(t *testing.T) {
	s := slc.New([]slc.Setting{{Level: slc.Value, Value: 3}})
	got, is := s.Hear(slc.Triple{Function: 1, Setting: slc.Setting{Level: slc.Value, Value: 4}})
	if got != ack(1, val, 4) || !is || s.Has(1) != set(val, 4) {
		t.Errorf("%v, %v, it has %v", got, is, s.Has(1))
	}
}

// P14.1: Right of each function, level and byte, and of what is around them,
// Ack or not.
func TestRight(t *testing.T) {
	numbers := append([]int{-2, -1, 256, 257}, noBytes()...)
	for v := range 256 {
		numbers = append(numbers, v)
	}
	for f := -3; f < 24; f++ {
		for level := -3; level < 8; level++ {
			for _, v := range numbers {
				is := f >= 1 && f <= 18 && (v == 0 && (level == 0 || level == 3) || v >= 0 && v < 256 && (level == 1 || level == 2))
				if got := slc.Right(triple(f, level, v)); got != is {
					t.Fatalf("Right of %d %d %d: %v", f, level, v, got)
				}
				if got := slc.Right(ack(f, level, v)); got != is {
					t.Fatalf("Right of %d %d %d, an Ack: %v", f, level, v, got)
				}
			}
		}
	}
}

// P14.1: Right of functions, levels and values that are none, each beside what
// is right.
func TestRightOfNone(t *testing.T) {
	for _, f := range noFunctions() {
		for _, x := range append(few(), set(deft, 0)) {
			if slc.Right(slc.Triple{Function: f, Setting: x}) || slc.Right(slc.Triple{Function: f, Setting: x, Ack: true}) {
				t.Fatalf("%d is a function", f)
			}
		}
	}
	for _, f := range functions() {
		for _, x := range noSettings() {
			if slc.Right(slc.Triple{Function: f, Setting: x}) || slc.Right(slc.Triple{Function: f, Setting: x, Ack: true}) {
				t.Fatalf("%v is right, of %d", x, f)
			}
		}
		for _, x := range append(few(), set(deft, 0)) {
			if !slc.Right(slc.Triple{Function: f, Setting: x}) || !slc.Right(slc.Triple{Function: f, Setting: x, Ack: true}) {
				t.Fatalf("%v isn't right, of %d", x, f)
			}
		}
	}
	if slc.Right(slc.Triple{}) {
		t.Error("the zero Triple is right")
	}
}

// mustHold holds what a new side of these settings holds, function by function:
// asked for the Default of the other one, it tells that.
func mustHold(t *testing.T, holds []slc.Setting, want func(f int) slc.Setting) {
	t.Helper()
	b := newBoth(t, holds...)
	if b.is.Waits() != 0 {
		t.Fatalf("it waits for %d at first", b.is.Waits())
	}
	for _, f := range functions() {
		if got := b.is.Has(f); got != set(none, 0) {
			t.Fatalf("it has %v of %d at first", got, f)
		}
	}
	for _, f := range functions() {
		got, is := b.hear(triple(f, deft, 0))
		if !is || got != (slc.Triple{Function: f, Setting: want(f)}) || b.is.Has(f) != want(f) {
			t.Fatalf("of %d it holds %v, %v, not %v", f, got, is, want(f))
		}
	}
	for _, f := range functions() {
		b.waitsFor(f, false)
	}
}

// P14.1: New of no settings, of any number of them, and of too many.
func TestNewOfHowMany(t *testing.T) {
	nothing := func(int) slc.Setting { return set(none, 0) }
	mustHold(t, nil, nothing)
	mustHold(t, []slc.Setting{}, nothing)
	mustHold(t, mixed(18)[:0], nothing)
	for _, n := range []int{1, 2, 3, 4, 5, 8, 12, 16, 17, 18, 19, 20, 21, 36, 37, 255, 256, 257, 274, 1 << 16, 1<<16 + 18} {
		list := mixed(n)
		mustHold(t, list, func(f int) slc.Setting {
			if f > n {
				return set(none, 0)
			}
			return list[f-1]
		})
	}
}

// P14.1: settings that aren't right, and Default, are None, at each place; the
// others are held as they are told.
func TestNewOfOthers(t *testing.T) {
	for _, x := range append(noSettings(), set(deft, 0)) {
		s := slc.New([]slc.Setting{x, set(val, 7)})
		if got, is := s.Hear(triple(1, deft, 0)); got != triple(1, none, 0) || !is {
			t.Fatalf("New of %v holds %v, %v", x, got, is)
		}
		if got, is := s.Hear(triple(2, deft, 0)); got != triple(2, val, 7) || !is {
			t.Fatalf("New of %v holds %v, %v, of 2", x, got, is)
		}
	}
	for _, place := range functions() {
		for _, x := range []slc.Setting{set(deft, 0), set(deft, 1), set(4, 0), set(-1, 3), set(none, 9), set(cant, 256), set(val, -1), set(val, 256)} {
			mustHold(t, at(place, x), func(f int) slc.Setting {
				if f == place {
					return set(none, 0)
				}
				return mixed(18)[f-1]
			})
		}
		for v := range 256 {
			for _, x := range []slc.Setting{set(cant, v), set(val, v)} {
				s := slc.New(at(place, x))
				if got, is := s.Hear(triple(place, deft, 0)); got != (slc.Triple{Function: place, Setting: x}) || !is {
					t.Fatalf("New of %v holds %v, %v", x, got, is)
				}
			}
		}
	}
	mustHold(t, slices.Repeat([]slc.Setting{set(deft, 0)}, 30), func(int) slc.Setting { return set(none, 0) })
}

// P14.1: New neither keeps nor changes the list that it is given, nor the room
// behind it.
func TestNewKeepsNothing(t *testing.T) {
	for _, n := range []int{1, 2, 17, 18, 19, 30} {
		list := mixed(n)
		list[n/2] = set(deft, 8)
		all := append(slices.Clone(list), set(val, 77), set(val, 78))
		want := slices.Clone(all)
		b := newBoth(t, all[:n]...)
		if !slices.Equal(all, want) {
			t.Fatalf("New changed what it was given: %v", all)
		}
		for i := range all {
			all[i] = set(val, 200+i)
		}
		turned := slices.Clone(all)
		for _, f := range functions() {
			b.hear(triple(f, deft, 0))
			b.hear(triple(f, val, 99))
			b.ask(f, set(cant, 5))
		}
		if !slices.Equal(all, turned) {
			t.Fatalf("a side changed what New was given: %v", all)
		}
	}
}

// P14.1: Hear, of all that a side has, and holds, and all that is heard.
func TestHear(t *testing.T) {
	for _, f := range []int{1, 2, 9, 17, 18} {
		for _, holds := range few() {
			for _, has := range few() {
				for _, heard := range append(few(), set(deft, 0)) {
					for n := range 4 {
						b := newBoth(t, at(f, holds)...)
						b.bring(f, has, n&1 != 0)
						b.hear(slc.Triple{Function: f, Setting: heard, Ack: n&2 != 0})
						b.waitsFor(f, false)
					}
				}
			}
		}
	}
}

// P14.1: Hear of each byte: what is heard is told of that byte, and of no other.
func TestHearOfEachByte(t *testing.T) {
	for v := range 256 {
		for _, level := range []int{cant, val} {
			for _, has := range []slc.Setting{set(none, 0), set(cant, v), set(val, v), set(val, v^1), set(cant, v^128)} {
				for _, holds := range []slc.Setting{set(none, 0), set(cant, v), set(cant, v^1), set(val, v), set(val, v^64)} {
					b := newBoth(t, holds)
					b.bring(1, has, v%2 == 0)
					b.hear(triple(1, level, v))
					b.hear(triple(1, level, v^1))
					b.hear(ack(1, level, v))
				}
			}
		}
	}
}

// P14.1: Hear, by rows that are written down: what is held, what the side has,
// what is heard; what is told, if something is, and what it has then.
func TestHearWrittenDown(t *testing.T) {
	no := slc.Triple{}
	for _, row := range []struct {
		holds, has slc.Setting
		heard      slc.Triple
		told       slc.Triple
		then       slc.Setting
	}{
		{set(val, 3), set(none, 0), triple(5, val, 4), ack(5, val, 4), set(val, 4)},
		{set(val, 3), set(none, 0), triple(5, val, 3), ack(5, val, 3), set(val, 3)},
		{set(val, 3), set(val, 4), triple(5, val, 4), no, set(val, 4)},
		{set(val, 3), set(cant, 4), triple(5, val, 4), ack(5, val, 4), set(val, 4)},
		{set(val, 3), set(val, 4), triple(5, cant, 4), ack(5, cant, 4), set(cant, 4)},
		{set(val, 3), set(val, 4), triple(5, none, 0), ack(5, none, 0), set(none, 0)},
		{set(val, 3), set(val, 4), triple(5, deft, 0), triple(5, val, 3), set(val, 3)},
		{set(val, 3), set(val, 3), triple(5, deft, 0), triple(5, val, 3), set(val, 3)},
		{set(val, 3), set(val, 4), ack(5, val, 9), no, set(val, 4)},
		{set(val, 3), set(val, 4), ack(5, val, 4), no, set(val, 4)},
		{set(val, 3), set(val, 4), ack(5, cant, 9), no, set(val, 4)},
		{set(val, 3), set(val, 4), ack(5, none, 0), no, set(val, 4)},
		{set(val, 3), set(val, 4), ack(5, deft, 0), no, set(val, 4)},
		{set(cant, 7), set(none, 0), triple(5, val, 4), triple(5, cant, 7), set(cant, 7)},
		{set(cant, 7), set(none, 0), triple(5, val, 7), triple(5, cant, 7), set(cant, 7)},
		{set(cant, 7), set(cant, 7), triple(5, val, 7), triple(5, cant, 7), set(cant, 7)},
		{set(cant, 7), set(cant, 7), triple(5, cant, 7), no, set(cant, 7)},
		{set(cant, 7), set(none, 0), triple(5, cant, 7), triple(5, none, 0), set(none, 0)},
		{set(cant, 7), set(cant, 7), triple(5, cant, 8), triple(5, none, 0), set(none, 0)},
		{set(cant, 7), set(val, 8), triple(5, cant, 8), triple(5, none, 0), set(none, 0)},
		{set(cant, 7), set(cant, 7), triple(5, none, 0), ack(5, none, 0), set(none, 0)},
		{set(cant, 7), set(cant, 7), triple(5, deft, 0), triple(5, cant, 7), set(cant, 7)},
		{set(cant, 7), set(none, 0), ack(5, cant, 7), no, set(none, 0)},
		{set(none, 0), set(none, 0), triple(5, val, 4), triple(5, none, 0), set(none, 0)},
		{set(none, 0), set(val, 4), triple(5, val, 4), no, set(val, 4)},
		{set(none, 0), set(val, 4), triple(5, val, 5), triple(5, none, 0), set(none, 0)},
		{set(none, 0), set(none, 0), triple(5, cant, 4), triple(5, none, 0), set(none, 0)},
		{set(none, 0), set(none, 0), triple(5, none, 0), no, set(none, 0)},
		{set(none, 0), set(val, 4), triple(5, none, 0), ack(5, none, 0), set(none, 0)},
		{set(none, 0), set(none, 0), triple(5, deft, 0), triple(5, none, 0), set(none, 0)},
		{set(none, 0), set(val, 4), triple(5, deft, 0), triple(5, none, 0), set(none, 0)},
		{set(none, 0), set(none, 0), ack(5, none, 0), no, set(none, 0)},
	} {
		for _, waits := range []bool{false, true} {
			b := newBoth(t, at(5, row.holds)...)
			b.bring(5, row.has, waits)
			told, is := b.is.Hear(row.heard)
			if told != row.told || is != (row.told != no) || b.is.Has(5) != row.then || b.is.Waits() != 0 {
				t.Errorf("%v: %v, %v, it has %v, and waits for %d", row, told, is, b.is.Has(5), b.is.Waits())
			}
		}
	}
}

// wrongTriples is triples that aren't right, of a function, or such as could be
// mistaken for one of it.
func wrongTriples(f int) []slc.Triple {
	list := []slc.Triple{
		{}, triple(0, val, 3), triple(-f, val, 3), triple(f+256, val, 3), triple(f-256, val, 3), triple(f+1<<32, deft, 0), triple(f+18, none, 0),
		triple(19, none, 0), triple(-1, deft, 0), triple(math.MinInt, cant, 3), triple(math.MaxInt, none, 0), triple(f-18, val, 3),
	}
	for _, x := range []slc.Setting{set(4, 0), set(-1, 0), set(5, 3), set(130, 3), set(131, 0), set(128, 0), set(66, 3), set(34, 3), set(258, 3), set(none, 1), set(none, -1),
		set(none, 256), set(deft, 1), set(deft, 255), set(deft, 256), set(cant, -1), set(cant, 256), set(val, -1), set(val, 256), set(val, 259), set(val, math.MinInt)} {
		list = append(list, slc.Triple{Function: f, Setting: x})
	}
	for _, t := range slices.Clone(list) {
		t.Ack = true
		list = append(list, t)
	}
	return list
}

// P14.1: a triple that isn't right is told nothing, and turns nothing, also
// where the side waits for that function.
func TestHearOfWhatIsntRight(t *testing.T) {
	for _, f := range functions() {
		for _, has := range []slc.Setting{set(none, 0), set(cant, 9), set(val, 3)} {
			for _, holds := range []slc.Setting{set(none, 0), set(cant, 9), set(val, 4)} {
				for _, waits := range []bool{false, true} {
					b := newBoth(t, at(f, holds)...)
					b.bring(f, has, waits)
					before := b.is.Waits()
					for _, x := range wrongTriples(f) {
						if got, is := b.is.Hear(x); got != (slc.Triple{}) || is || b.is.Has(f) != has || b.is.Waits() != before {
							t.Fatalf("Hear of %v: %v, %v, it has %v, and waits for %d", x, got, is, b.is.Has(f), b.is.Waits())
						}
					}
					b.same()
					b.waitsFor(f, waits)
				}
			}
		}
	}
}

// P14.1: what is heard of a function, or asked for, leaves the others as they
// were, in all that they have, and whether they are waited for.
func TestOthersStay(t *testing.T) {
	has := []slc.Setting{set(none, 0), set(val, 40), set(cant, 41), set(val, 3)}
	for _, f := range functions() {
		b := newBoth(t, mixed(18)...)
		for _, g := range functions() {
			b.bring(g, has[g%4], g%3 != 0)
		}
		for _, x := range append(few(), set(deft, 0)) {
			b.hear(slc.Triple{Function: f, Setting: x})
			b.ask(f, set(val, 50))
			b.hear(slc.Triple{Function: f, Setting: x, Ack: true})
			b.ask(f, set(deft, 0))
		}
		for _, g := range functions() {
			if g != f && b.is.Has(g) != has[g%4] {
				t.Fatalf("%d has %v behind what was heard of %d", g, b.is.Has(g), f)
			}
		}
		for _, g := range functions() {
			if g != f {
				b.waitsFor(g, g%3 != 0)
			}
		}
	}
}

// mustRefuse asks a side for what can't be asked for: nothing is told, and
// nothing turns.
func mustRefuse(t *testing.T, b both, f int, x slc.Setting, want error) {
	t.Helper()
	has, waits := b.is.Has(f), b.is.Waits()
	if got, err := b.is.Ask(f, x); got != (slc.Triple{}) || !errors.Is(err, want) {
		t.Fatalf("Ask of %d and %v: %v, %v, not %v", f, x, got, err, want)
	}
	if b.is.Has(f) != has || b.is.Waits() != waits {
		t.Fatalf("Ask of %d and %v turned something: it has %v, and waits for %d", f, x, b.is.Has(f), b.is.Waits())
	}
	b.same()
}

// P14.1: Ask of numbers that are no functions, also where the setting isn't
// right, or None.
func TestAskErrRange(t *testing.T) {
	b := newBoth(t, mixed(18)...)
	b.ask(1, set(val, 3))
	b.ask(18, set(deft, 0))
	for _, f := range noFunctions() {
		for _, x := range append(few(), set(deft, 0), set(deft, 1), set(none, 1), set(4, 0), set(-1, 0), set(val, 256), set(cant, -1)) {
			mustRefuse(t, b, f, x, api.ErrRange)
		}
	}
	b.waitsFor(1, true)
	b.waitsFor(18, true)
	b.waitsFor(2, false)
}

// P14.1: Ask of what isn't right, and of None, whether the side waits or not,
// and whether it has that or not.
func TestAskErrForm(t *testing.T) {
	for _, f := range functions() {
		for _, has := range []slc.Setting{set(none, 0), set(val, 3), set(cant, 0)} {
			for _, waits := range []bool{false, true} {
				b := newBoth(t, mixed(18)...)
				b.bring(f, has, waits)
				for _, x := range append(noSettings()[:60], set(none, 0), set(none, 1), set(none, 255), set(deft, 1), set(deft, 3), set(val, -1), set(val, 256), set(val, 259), set(cant, 256), set(cant, -1)) {
					mustRefuse(t, b, f, x, api.ErrForm)
				}
				b.waitsFor(f, waits)
			}
		}
	}
	b := newBoth(t)
	for _, x := range noSettings() {
		mustRefuse(t, b, 7, x, api.ErrForm)
	}
}

// P14.1: Ask, where the side waits for that function, also for what it has; and
// for what it has, where it doesn't wait.
func TestAskErrStateErrDup(t *testing.T) {
	for _, f := range functions() {
		for _, has := range few() {
			for _, holds := range few() {
				b := newBoth(t, at(f, holds)...)
				b.bring(f, has, true)
				for _, x := range append(few(), set(deft, 0)) {
					want := api.ErrState
					if x.Level == none {
						want = api.ErrForm
					}
					mustRefuse(t, b, f, x, want)
				}
				b.hear(ack(f, none, 0))
				if has.Level != none {
					mustRefuse(t, b, f, has, api.ErrDup)
					mustRefuse(t, b, f, has, api.ErrDup)
				}
				b.waitsFor(f, false)
			}
		}
	}
}

// P14.1: what a side is told to hold is no reason to refuse, nor what another
// function has, or is waited for.
func TestAskHangsOnThatFunction(t *testing.T) {
	b := newBoth(t, slices.Repeat([]slc.Setting{set(val, 3)}, 18)...)
	for i, f := range functions() {
		if got, err := b.ask(f, set(val, 3)); got != triple(f, val, 3) || err != nil {
			t.Fatalf("Ask of %d: %v, %v", f, got, err)
		}
		if b.is.Waits() != i+1 {
			t.Fatalf("it waits for %d", b.is.Waits())
		}
	}
	for i, f := range functions() {
		b.hear(ack(f, val, 3))
		if b.is.Waits() != 17-i {
			t.Fatalf("it waits for %d", b.is.Waits())
		}
	}
}

// P14.1: Ask of each setting that can be asked for, by each that the side has.
func TestAsk(t *testing.T) {
	for _, f := range []int{1, 2, 9, 17, 18} {
		for _, has := range few() {
			for v := range 256 {
				for _, x := range []slc.Setting{set(cant, v), set(val, v)} {
					b := newBoth(t, at(f, set(val, 3))...)
					b.bring(f, has, false)
					if x == has {
						mustRefuse(t, b, f, x, api.ErrDup)
						continue
					}
					got, err := b.ask(f, x)
					if got != (slc.Triple{Function: f, Setting: x}) || err != nil || b.is.Has(f) != x || b.is.Waits() != 1 {
						t.Fatalf("Ask of %v: %v, %v, it has %v, and waits for %d", x, got, err, b.is.Has(f), b.is.Waits())
					}
					b.waitsFor(f, true)
				}
			}
		}
	}
}

// P14.1: asking for Default, the side has what it had, and waits; then it has
// what it agrees to of the answer.
func TestAskForDefault(t *testing.T) {
	for _, f := range functions() {
		for _, has := range few() {
			for _, holds := range few() {
				for _, answer := range few() {
					b := newBoth(t, at(f, holds)...)
					b.bring(f, has, false)
					got, err := b.ask(f, set(deft, 0))
					if got != triple(f, deft, 0) || err != nil || b.is.Has(f) != has || b.is.Waits() != 1 {
						t.Fatalf("Ask for Default: %v, %v, it has %v, and waits for %d", got, err, b.is.Has(f), b.is.Waits())
					}
					mustRefuse(t, b, f, set(deft, 0), api.ErrState)
					b.hear(slc.Triple{Function: f, Setting: answer})
					if b.is.Waits() != 0 {
						t.Fatalf("it waits for %d", b.is.Waits())
					}
					if holds.Level == val && b.is.Has(f) != answer {
						t.Fatalf("it has %v, the answer was %v", b.is.Has(f), answer)
					}
				}
			}
		}
	}
}

// P14.1: Has of numbers that are no functions, whatever the functions have.
func TestHasOfNone(t *testing.T) {
	b := newBoth(t, slices.Repeat([]slc.Setting{set(val, 3)}, 40)...)
	for _, f := range functions() {
		b.ask(f, set(val, 100+f))
	}
	for _, f := range noFunctions() {
		if got := b.is.Has(f); got != (slc.Setting{}) {
			t.Fatalf("Has of %d: %v", f, got)
		}
	}
	for _, f := range functions() {
		if got := b.is.Has(f); got != set(val, 100+f) {
			t.Fatalf("Has of %d: %v", f, got)
		}
	}
}

// bytesOf is what Body should answer of triples that are right.
func bytesOf(list []slc.Triple) []byte {
	var buf bytes.Buffer
	for _, t := range list {
		buf.WriteByte(byte(t.Function))
		if t.Ack {
			buf.WriteByte(byte(t.Setting.Level + 128))
		} else {
			buf.WriteByte(byte(t.Setting.Level))
		}
		buf.WriteByte(byte(t.Setting.Value))
	}
	return buf.Bytes()
}

// some is so many triples that are right, of all functions, levels and values.
func some(n int) []slc.Triple {
	var list []slc.Triple
	for i := range n {
		x := append(few(), set(deft, 0))[i%9]
		list = append(list, slc.Triple{Function: 1 + i%18, Setting: x, Ack: i%5 == 2})
	}
	return list
}

// mustTell holds Body of a list against its model, and reads it back: nothing
// that is given is changed, nor kept, and each answer is a row of its own.
func mustTell(t *testing.T, list []slc.Triple) {
	t.Helper()
	all := append(slices.Clone(list), triple(3, val, 77), triple(0, 9, 999))
	want := slices.Clone(all)
	one, err := slc.Body(all[:len(list)])
	two, _ := slc.Body(all[:len(list)])
	if !slices.Equal(all, want) {
		t.Fatalf("Body changed what it was given: %v", all)
	}
	clear(all)
	if err != nil || !bytes.Equal(one, bytesOf(list)) || !bytes.Equal(two, one) {
		t.Fatalf("Body of %v: % x, % x, %v", list, one, two, err)
	}
	for i := range one[:cap(one)] {
		one[:cap(one)][i] = 0xee
	}
	if !bytes.Equal(two, bytesOf(list)) {
		t.Fatalf("two bodies of %v share: % x", list, two)
	}
	if back, err := slc.Parse(two); err != nil || !slices.Equal(back, list) {
		t.Fatalf("Parse of the body of %v: %v, %v", list, back, err)
	}
}

// mustNotTell holds Body of a list against an error.
func mustNotTell(t *testing.T, list []slc.Triple, want error) {
	t.Helper()
	before := slices.Clone(list)
	if b, err := slc.Body(list); len(b) != 0 || !errors.Is(err, want) {
		t.Fatalf("Body of %d triples: % x, %v, not %v", len(list), b, err, want)
	}
	if !slices.Equal(list, before) {
		t.Fatalf("Body changed what it was given: %v", list)
	}
}

// P14.1: Body of no triples, and of as many as are told.
func TestBodyOfHowMany(t *testing.T) {
	for _, list := range [][]slc.Triple{nil, {}, some(9)[:0]} {
		if b, err := slc.Body(list); len(b) != 0 || err != nil {
			t.Fatalf("Body of no triples: % x, %v", b, err)
		}
	}
	for n := range 86 {
		mustTell(t, some(n))
		mustTell(t, slices.Repeat([]slc.Triple{ack(18, val, 255)}, n))
	}
	for n := 86; n < 300; n++ {
		mustNotTell(t, some(n), api.ErrLong)
	}
	for _, n := range []int{1 << 10, 1 << 16, 1<<16 + 1, 1<<16 + 85} {
		mustNotTell(t, some(n), api.ErrLong)
	}
}

// P14.1: Body of each triple that is right.
func TestBodyOfEach(t *testing.T) {
	for _, f := range functions() {
		for v := range 256 {
			for level := range 4 {
				for _, x := range []slc.Triple{triple(f, level, v), ack(f, level, v)} {
					if v > 0 && (level == none || level == deft) {
						mustNotTell(t, []slc.Triple{x}, api.ErrForm)
						continue
					}
					mustTell(t, []slc.Triple{x})
				}
			}
		}
	}
}

// P14.1: Body and Parse, by rows that are written down.
func TestBodyWrittenDown(t *testing.T) {
	for _, row := range []struct {
		list []slc.Triple
		want []byte
	}{
		{[]slc.Triple{triple(1, none, 0)}, []byte{1, 0, 0}},
		{[]slc.Triple{triple(2, cant, 7)}, []byte{2, 1, 7}},
		{[]slc.Triple{triple(3, val, 255)}, []byte{3, 2, 255}},
		{[]slc.Triple{triple(18, deft, 0)}, []byte{18, 3, 0}},
		{[]slc.Triple{ack(1, none, 0)}, []byte{1, 128, 0}},
		{[]slc.Triple{ack(2, cant, 7)}, []byte{2, 129, 7}},
		{[]slc.Triple{ack(3, val, 0)}, []byte{3, 130, 0}},
		{[]slc.Triple{ack(18, deft, 0)}, []byte{18, 131, 0}},
		{[]slc.Triple{triple(9, val, 3), ack(9, val, 3), triple(4, deft, 0)}, []byte{9, 2, 3, 9, 130, 3, 4, 3, 0}},
	} {
		if b, err := slc.Body(row.list); err != nil || !bytes.Equal(b, row.want) {
			t.Errorf("Body of %v: % x, %v", row.list, b, err)
		}
		if list, err := slc.Parse(row.want); err != nil || !slices.Equal(list, row.list) {
			t.Errorf("Parse of % x: %v, %v", row.want, list, err)
		}
	}
}

// P14.1: a triple that isn't right, at each place, of lists of all lengths; it
// is told ahead of a list's being too long.
func TestBodyErrForm(t *testing.T) {
	for _, n := range []int{1, 2, 3, 40, 84, 85, 86, 87, 256} {
		for _, place := range []int{0, 1, n / 2, n - 2, n - 1} {
			if place < 0 || place >= n {
				continue
			}
			for _, x := range wrongTriples(5) {
				list := some(n)
				list[place] = x
				mustNotTell(t, list, api.ErrForm)
			}
		}
		mustNotTell(t, slices.Repeat([]slc.Triple{{}}, n), api.ErrForm)
	}
	for _, f := range noFunctions() {
		mustNotTell(t, []slc.Triple{triple(f, val, 3)}, api.ErrForm)
	}
	for _, x := range noSettings() {
		mustNotTell(t, []slc.Triple{triple(1, val, 3), {Function: 2, Setting: x}}, api.ErrForm)
	}
}

// read is what Parse should answer of bytes: each triple by what its second byte
// is without the bits that say nothing, which are 4, 8, 16, 32 and 64.
func read(body []byte) []slc.Triple {
	var list []slc.Triple
	for i := 0; i+2 < len(body); i += 3 {
		second := int(body[i+1])
		for _, bit := range []int{64, 32, 16, 8, 4} {
			if second%(2*bit) >= bit {
				second -= bit
			}
		}
		t := triple(int(body[i]), second, int(body[i+2]))
		if second >= 128 {
			t = ack(int(body[i]), second-128, int(body[i+2]))
		}
		if isTriple(t) {
			list = append(list, t)
		}
	}
	return list
}

// mustRead holds Parse of bytes against its model: nothing that is given is
// changed, nor kept, and each answer is a list of its own.
func mustRead(t *testing.T, body []byte) {
	t.Helper()
	all := append(slices.Clone(body), 1, 2, 3)
	given := slices.Clone(all)
	one, err := slc.Parse(all[:len(body)])
	two, _ := slc.Parse(all[:len(body)])
	if !bytes.Equal(all, given) {
		t.Fatalf("Parse changed what it was given: % x", all)
	}
	clear(all)
	want := read(body)
	if len(body)%3 != 0 {
		if len(one) != 0 || !errors.Is(err, api.ErrShort) {
			t.Fatalf("Parse of %d bytes: %v, %v", len(body), one, err)
		}
		return
	}
	if err != nil || !slices.Equal(one, want) || !slices.Equal(two, want) {
		t.Fatalf("Parse of % x: %v, %v, not %v", body, one, err, want)
	}
	clear(one[:cap(one)])
	if !slices.Equal(two, want) {
		t.Fatalf("two lists of % x share: %v", body, two)
	}
}

// P14.1: Parse of each number of bytes: of right triples, of such as are passed
// over, and of no bytes at all.
func TestParseOfHowMany(t *testing.T) {
	for _, b := range [][]byte{nil, {}, []byte("abc")[:0]} {
		if list, err := slc.Parse(b); len(list) != 0 || err != nil {
			t.Fatalf("Parse of no bytes: %v, %v", list, err)
		}
	}
	long := bytesOf(some(1000))
	for n := range 800 {
		mustRead(t, long[:n])
		mustRead(t, bytes.Repeat([]byte{0}, n))
		mustRead(t, bytes.Repeat([]byte{255}, n))
		list, err := slc.Parse(long[:n])
		if n%3 == 0 && (err != nil || len(list) != n/3) || n%3 != 0 && (!errors.Is(err, api.ErrShort) || len(list) != 0) {
			t.Fatalf("Parse of %d bytes: %d triples, %v", n, len(list), err)
		}
	}
	for _, n := range []int{1 << 12, 1 << 16, 1<<16 + 1, 1<<16 + 2} {
		mustRead(t, bytes.Repeat([]byte{3}, n))
	}
}

// P14.1: Parse of each second byte: the bits that say nothing, alone, together,
// and with each level and Ack.
func TestParseOfSecondBytes(t *testing.T) {
	for _, f := range []int{1, 2, 9, 18} {
		for second := range 256 {
			for _, v := range []int{0, 1, 3, 127, 128, 255} {
				body := []byte{byte(f), byte(second), byte(v)}
				mustRead(t, body)
				list, err := slc.Parse(body)
				level := second % 4
				if v != 0 && (level == none || level == deft) {
					if len(list) != 0 || err != nil {
						t.Fatalf("Parse of % x: %v, %v", body, list, err)
					}
					continue
				}
				want := slc.Triple{Function: f, Setting: set(level, v), Ack: second >= 128}
				if len(list) != 1 || list[0] != want || err != nil {
					t.Fatalf("Parse of % x: %v, %v, not %v", body, list, err, want)
				}
			}
		}
	}
	for _, bits := range []int{4, 8, 16, 32, 64, 124} {
		for _, with := range []int{0, 128} {
			for level := range 4 {
				list, err := slc.Parse([]byte{6, byte(bits + with + level), 0})
				if err != nil || len(list) != 1 || list[0] != (slc.Triple{Function: 6, Setting: set(level, 0), Ack: with != 0}) {
					t.Fatalf("the bits %d, %d and %d: %v, %v", bits, with, level, list, err)
				}
			}
		}
	}
}

// P14.1: Parse of each first byte, and of each third one, of each level.
func TestParseOfOtherBytes(t *testing.T) {
	for c := range 256 {
		for level := range 4 {
			for _, with := range []int{0, 128} {
				mustRead(t, []byte{byte(c), byte(level + with), 0})
				mustRead(t, []byte{byte(c), byte(level + with), 3})
				mustRead(t, []byte{4, byte(level + with), byte(c)})
			}
		}
		list, err := slc.Parse([]byte{byte(c), 2, 3})
		if is := c >= 1 && c <= 18; err != nil || len(list) == 1 != is || is && list[0] != triple(c, val, 3) {
			t.Fatalf("Parse of function %d: %v, %v", c, list, err)
		}
	}
}

// P14.1: what isn't right is passed over wherever it stands, the others are told
// in order.
func TestParsePassesOver(t *testing.T) {
	wrong := [][]byte{{0, 2, 3}, {19, 2, 3}, {20, 0, 0}, {255, 3, 0}, {128, 130, 0}, {5, 0, 1}, {5, 3, 1}, {5, 128, 255}, {5, 131, 255}, {5, 4, 9}, {5, 127, 9}}
	right := []slc.Triple{triple(7, val, 9), ack(7, cant, 200), triple(1, none, 0), triple(7, val, 9)}
	for _, w := range wrong {
		if list, err := slc.Parse(w); len(list) != 0 || err != nil {
			t.Fatalf("Parse of % x: %v, %v", w, list, err)
		}
		for place := range len(right) + 1 {
			for times := 1; times <= 3; times++ {
				body := slices.Concat(bytesOf(right[:place]), bytes.Repeat(w, times), bytesOf(right[place:]))
				if list, err := slc.Parse(body); err != nil || !slices.Equal(list, right) {
					t.Fatalf("Parse of % x: %v, %v", body, list, err)
				}
				mustRead(t, body)
				mustRead(t, body[:len(body)-1])
				mustRead(t, body[1:])
			}
		}
	}
	if list, err := slc.Parse(slices.Concat(wrong...)); len(list) != 0 || err != nil {
		t.Fatalf("Parse of what isn't right: %v, %v", list, err)
	}
}

// P14.2: two sides share nothing, also such as were made of one list.
func TestSidesApart(t *testing.T) {
	list := mixed(18)
	sides := []both{newBoth(t, list...), newBoth(t, list...), newBoth(t)}
	for _, f := range functions() {
		for i, b := range sides {
			b.ask(f, set(val, 60+i))
			for _, other := range sides {
				other.same()
			}
		}
		for i, b := range sides {
			b.hear(triple(f, cant, 90+i))
			for _, other := range sides {
				other.same()
			}
		}
		b := sides[f%3]
		b.ask(f, set(deft, 0))
		for i, other := range sides {
			if got, want := other.p.waits[f], i == f%3; got != want {
				t.Fatalf("side %d waits for %d: %v", i, f, got)
			}
			other.same()
		}
	}
}

// joined is two sides, of which the first one asks; what one tells comes to the
// other one, in order, as bodies.
type joined struct {
	t     *testing.T
	sides [2]both
	rows  [2][][]byte // what is on its way to each
	story []string
}

func join(t *testing.T, one, two []slc.Setting) *joined {
	t.Helper()
	return &joined{t: t, sides: [2]both{newBoth(t, one...), newBoth(t, two...)}}
}

// sends puts what a side tells on its way, as one body.
func (j *joined) sends(side int, list ...slc.Triple) {
	j.t.Helper()
	if len(list) == 0 {
		return
	}
	body, err := slc.Body(list)
	if err != nil {
		j.t.Fatalf("Body of %v: %v", list, err)
	}
	j.rows[1-side] = append(j.rows[1-side], body)
}

// asks lets the first side ask for a setting: whether that could be done.
func (j *joined) asks(f int, x slc.Setting) bool {
	j.t.Helper()
	told, err := j.sides[0].ask(f, x)
	if err != nil {
		return false
	}
	j.story = append(j.story, fmt.Sprintf("asks %v", told))
	j.sends(0, told)
	return true
}

// hears lets a side hear the first body that is on its way to it: whether there
// was one.
func (j *joined) hears(side int) bool {
	j.t.Helper()
	if len(j.rows[side]) == 0 {
		return false
	}
	list, err := slc.Parse(j.rows[side][0])
	j.rows[side] = j.rows[side][1:]
	if err != nil {
		j.t.Fatalf("Parse: %v", err)
	}
	var told []slc.Triple
	for _, x := range list {
		if answer, is := j.sides[side].hear(x); is {
			told = append(told, answer)
		}
	}
	j.story = append(j.story, fmt.Sprintf("%d hears %v, tells %v", side, list, told))
	j.sends(side, told...)
	return true
}

// resting tells whether nothing is on its way; then both must have the same,
// and nobody waits.
func (j *joined) resting() bool {
	j.t.Helper()
	if len(j.rows[0])+len(j.rows[1]) > 0 {
		return false
	}
	one, two := j.sides[0].is, j.sides[1].is
	if one.Waits() != 0 || two.Waits() != 0 {
		j.t.Fatalf("at rest, they wait for %d and %d: %q", one.Waits(), two.Waits(), j.story)
	}
	for _, f := range functions() {
		if one.Has(f) != two.Has(f) {
			j.t.Fatalf("at rest, of %d they have %v and %v: %q", f, one.Has(f), two.Has(f), j.story)
		}
	}
	return true
}

// rest lets both hear, in an order that pick tells, till nothing is on its way.
func (j *joined) rest(pick func() int) {
	j.t.Helper()
	for n := 0; !j.resting(); n++ {
		if n > 10000 {
			j.t.Fatalf("they don't come to rest: %q", j.story)
		}
		if side := pick(); !j.hears(side) {
			j.hears(1 - side)
		}
	}
}

// turns is a pick that goes to and fro.
func turns() func() int {
	side := 0
	return func() int {
		side = 1 - side
		return side
	}
}

// askable is settings that can be asked for.
func askable() []slc.Setting { return append(few()[1:], set(deft, 0)) }

// P14.2: one thing is asked for, at rest, of each setting, whatever both hold;
// then another one.
func TestJoinedOne(t *testing.T) {
	for _, one := range few() {
		for _, two := range few() {
			for _, x := range askable() {
				for _, y := range askable() {
					j := join(t, at(6, one), at(6, two))
					j.asks(6, x)
					j.rest(turns())
					j.asks(6, y)
					j.rest(turns())
					j.asks(6, x)
					j.rest(turns())
				}
			}
		}
	}
}

// P14.2: what both have, when one thing was asked for, by rows that are written
// down.
func TestJoinedWrittenDown(t *testing.T) {
	for _, row := range []struct{ one, two, asked, then slc.Setting }{
		{set(val, 1), set(val, 2), set(val, 3), set(val, 3)},
		{set(val, 1), set(val, 2), set(cant, 3), set(cant, 3)},
		{set(val, 1), set(val, 2), set(deft, 0), set(val, 2)},
		{set(val, 1), set(cant, 2), set(val, 3), set(cant, 2)},
		{set(val, 1), set(cant, 2), set(cant, 3), set(none, 0)},
		{set(val, 1), set(cant, 2), set(deft, 0), set(cant, 2)},
		{set(val, 1), set(none, 0), set(val, 3), set(none, 0)},
		{set(val, 1), set(none, 0), set(deft, 0), set(none, 0)},
		{set(cant, 1), set(val, 2), set(val, 3), set(val, 3)},
		{set(cant, 1), set(val, 2), set(deft, 0), set(cant, 1)},
		{set(cant, 1), set(cant, 2), set(val, 3), set(none, 0)},
		{set(cant, 1), set(cant, 2), set(cant, 1), set(none, 0)},
		{set(cant, 1), set(cant, 2), set(deft, 0), set(none, 0)},
		{set(none, 0), set(val, 2), set(deft, 0), set(none, 0)},
		{set(none, 0), set(val, 2), set(val, 3), set(val, 3)},
		{set(none, 0), set(cant, 2), set(val, 3), set(none, 0)},
		{set(none, 0), set(cant, 2), set(cant, 2), set(none, 0)},
		{set(none, 0), set(none, 0), set(cant, 2), set(none, 0)},
	} {
		for _, f := range []int{1, 10, 18} {
			j := join(t, at(f, row.one), at(f, row.two))
			j.asks(f, row.asked)
			j.rest(turns())
			if got := j.sides[1].is.Has(f); got != row.then {
				t.Errorf("%v: both have %v", row, got)
			}
		}
	}
}

// many is a joined pair's model of one function: it can be copied, so that all
// that may come of it is gone through.
type many struct {
	sides [2]plain
	rows  [2][]slc.Triple
	asked int
	acts  []act // that led here
}

// act is an asking for a setting, or a side's hearing.
type act struct {
	side  int
	asked slc.Setting
}

// key tells states that are the same.
func (m many) key() string {
	one, two := m.sides[0], m.sides[1]
	return fmt.Sprint(one.has[4], one.waits[4], two.has[4], two.waits[4], m.rows, m.asked)
}

// after is what comes of an act, if it can be done.
func (m many) after(a act) (many, bool) {
	n := many{
		sides: [2]plain{m.sides[0].copied(), m.sides[1].copied()},
		rows:  [2][]slc.Triple{slices.Clone(m.rows[0]), slices.Clone(m.rows[1])},
		asked: m.asked,
		acts:  append(slices.Clone(m.acts), a),
	}
	if a.asked.Level != none {
		told, err := n.sides[0].ask(4, a.asked)
		n.asked++
		n.rows[1] = append(n.rows[1], told)
		return n, err == nil
	}
	if len(n.rows[a.side]) == 0 {
		return n, false
	}
	told, is := n.sides[a.side].hear(n.rows[a.side][0])
	n.rows[a.side] = n.rows[a.side][1:]
	if is {
		n.rows[1-a.side] = append(n.rows[1-a.side], told)
	}
	return n, true
}

// P14.2: all that can come of up to three askings of one function, with the rows
// read in every order; each state that the model comes to is gone through with
// sides, too, which are let come to rest from there.
func TestJoinedAll(t *testing.T) {
	few := []slc.Setting{set(none, 0), set(cant, 1), set(cant, 2), set(val, 1), set(val, 2)}
	acts := []act{{side: 0}, {side: 1}}
	for _, x := range append(few[1:], set(deft, 0)) {
		acts = append(acts, act{asked: x})
	}
	states := 0
	for _, one := range few {
		for _, two := range few {
			first := many{sides: [2]plain{newPlain(at(4, one)), newPlain(at(4, two))}}
			list, seen := []many{first}, map[string]bool{first.key(): true}
			for i := 0; i < len(list); i++ {
				mustRest(t, at(4, one), at(4, two), list[i].acts)
				for _, a := range acts {
					if a.asked.Level != none && list[i].asked == 3 {
						continue
					}
					n, is := list[i].after(a)
					if is && !seen[n.key()] {
						seen[n.key()] = true
						list = append(list, n)
					}
				}
			}
			states += len(list)
		}
	}
	if states < 1000 {
		t.Errorf("there were but %d states", states)
	}
}

// mustRest lets joined sides do what is told, and then come to rest, the first
// one hearing first, the second one first, and by turns.
func mustRest(t *testing.T, one, two []slc.Setting, acts []act) {
	t.Helper()
	for _, pick := range []func() int{func() int { return 0 }, func() int { return 1 }, turns()} {
		j := join(t, one, two)
		for _, a := range acts {
			if a.asked.Level != none {
				j.asks(4, a.asked)
			} else {
				j.hears(a.side)
			}
			j.resting()
		}
		j.rest(pick)
	}
}

// by is a setting by chance that may be held or asked for, of few values, so
// that they are met again.
func by(chance *rand.Rand) slc.Setting {
	switch level := chance.Intn(4); level {
	case none, deft:
		return set(level, 0)
	default:
		return set(level, []int{0, 1, 2, 255}[chance.Intn(4)])
	}
}

// chosen is settings by chance, fewer or more than there are functions.
func chosen(chance *rand.Rand) []slc.Setting {
	var list []slc.Setting
	for range chance.Intn(24) {
		list = append(list, by(chance))
	}
	return list
}

// P14.2: many things are asked for, one by one or many in one body, of few
// functions or all, while both hear in any order.
func TestJoinedLong(t *testing.T) {
	for run := range 300 {
		chance := rand.New(rand.NewSource(int64(1400 + run)))
		j := join(t, chosen(chance), chosen(chance))
		those := 1 + chance.Intn(18)
		hearing := 1 + chance.Intn(4)
		for range chance.Intn(400) {
			switch {
			case chance.Intn(5) < hearing:
				j.hears(chance.Intn(2))
			case run%3 == 0:
				var told []slc.Triple
				for range chance.Intn(18) {
					if x, err := j.sides[0].ask(1+chance.Intn(those), by(chance)); err == nil {
						told = append(told, x)
					}
				}
				j.sends(0, told...)
			default:
				j.asks(1+chance.Intn(those), by(chance))
			}
			j.resting()
		}
		j.rest(func() int { return chance.Intn(2) })
	}
}

// P14.2: all settings that a side holds are asked for in one body, as a new
// side does, then each of them once more by the other level.
func TestJoinedAtOnce(t *testing.T) {
	for run := range 200 {
		chance := rand.New(rand.NewSource(int64(2400 + run)))
		holds := chosen(chance)
		j := join(t, holds, chosen(chance))
		for _, other := range []func(x slc.Setting) slc.Setting{
			func(x slc.Setting) slc.Setting { return x },
			func(x slc.Setting) slc.Setting { return set(val, x.Value) },
			func(x slc.Setting) slc.Setting { return set(cant, x.Value) },
			func(slc.Setting) slc.Setting { return set(deft, 0) },
		} {
			var told []slc.Triple
			for i, x := range holds[:min(len(holds), 18)] {
				if y, err := j.sides[0].ask(i+1, other(x)); err == nil {
					told = append(told, y)
				}
			}
			j.sends(0, told...)
			j.rest(func() int { return chance.Intn(2) })
		}
	}
}

// anyNumber is a number by chance, mostly one that may be.
func anyNumber(chance *rand.Rand, under int, others []int) int {
	if chance.Intn(20) == 0 {
		return others[chance.Intn(len(others))]
	}
	return chance.Intn(under)
}

// anyTriple is a triple by chance, mostly one that is right.
func anyTriple(chance *rand.Rand, functions int) slc.Triple {
	t := slc.Triple{Function: 1 + anyNumber(chance, functions, noFunctions()[20:]), Setting: by(chance), Ack: chance.Intn(4) == 0}
	if chance.Intn(10) == 0 {
		t.Setting = set(anyNumber(chance, 4, noLevels()), anyNumber(chance, 256, noBytes()))
	}
	return t
}

// P14.1: long runs of all calls by chance, in every order, of few functions or
// all.
func TestLongRuns(t *testing.T) {
	for run := range 150 {
		chance := rand.New(rand.NewSource(int64(3400 + run)))
		b := newBoth(t, chosen(chance)...)
		those := 1 + run%18
		for range 600 {
			x := anyTriple(chance, those)
			switch chance.Intn(5) {
			case 0, 1:
				b.hear(x)
			case 2, 3:
				b.ask(x.Function, x.Setting)
			default:
				if got, want := slc.Right(x), isTriple(x); got != want {
					t.Fatalf("Right of %v: %v", x, got)
				}
				got := b.is.Has(x.Function)
				if want := b.p.has[x.Function]; got != want {
					t.Fatalf("Has of %d: %v, not %v", x.Function, got, want)
				}
			}
		}
	}
}

// P14.1: Body and Parse of lists and bytes by chance.
func TestLongLists(t *testing.T) {
	chance := rand.New(rand.NewSource(1414))
	for range 3000 {
		var list []slc.Triple
		for range chance.Intn(100) {
			list = append(list, anyTriple(chance, 18))
		}
		body := make([]byte, chance.Intn(60))
		for i := range body {
			body[i] = byte(anyNumber(chance, 20, []int{128, 129, 130, 131, 255, 66, 36}))
		}
		mustRead(t, body)
		switch {
		case slices.ContainsFunc(list, func(x slc.Triple) bool { return !isTriple(x) }):
			mustNotTell(t, list, api.ErrForm)
		case len(list) > 85:
			mustNotTell(t, list, api.ErrLong)
		default:
			mustTell(t, list)
		}
	}
}

// No numbers and no bytes make a call panic, or are answered otherwise than they
// should be.
func FuzzCalls(f *testing.F) {
	f.Add(1, val, 3, 1, val, 4, false, []byte{1, 2, 3})
	f.Add(18, deft, 0, 18, cant, 255, true, []byte{18, 131, 0, 19, 0, 0})
	f.Add(-1, 4, 256, 0, -1, -1, true, []byte{255})
	f.Add(math.MaxInt, math.MinInt, math.MaxInt, math.MinInt, math.MaxInt, math.MinInt, false, []byte{})
	f.Fuzz(func(t *testing.T, f, level, value, g, other, v int, is bool, body []byte) {
		b := newBoth(t, set(level, value), set(other, v), set(level, v))
		for range 2 {
			b.ask(f, set(level, value))
			b.hear(slc.Triple{Function: g, Setting: set(other, v), Ack: is})
			b.ask(g, set(other, v))
			b.hear(slc.Triple{Function: f, Setting: set(level, value), Ack: !is})
			b.hear(slc.Triple{Function: g, Setting: set(level, v)})
		}
		for _, x := range []int{f, g} {
			if got := b.is.Has(x); got != b.p.has[x] {
				t.Fatalf("Has of %d: %v", x, got)
			}
		}
		list := []slc.Triple{{Function: f, Setting: set(level, value), Ack: is}, {Function: g, Setting: set(other, v)}}
		if isTriple(list[0]) && isTriple(list[1]) {
			mustTell(t, list)
		} else {
			mustNotTell(t, list, api.ErrForm)
		}
		mustRead(t, body)
	})
}
