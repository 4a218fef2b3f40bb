package timers_test

import (
	"errors"
	"maps"
	"math"
	"slices"
	"testing"

	"truchman/api"
	"truchman/timers"
)

// model is what Timers should hold: by key, when it is due. It keeps no order;
// each first one is looked for anew.
type model struct {
	now int
	at  map[int]int
}

func newModel() *model { return &model{at: map[int]int{}} }

func (m *model) next() (key, at int, is bool) {
	for k, a := range m.at {
		if !is || a < at || a == at && k < key {
			key, at, is = k, a, true
		}
	}
	return key, at, is
}

func (m *model) set(key, at int) error {
	_, there := m.at[key]
	switch {
	case at < m.now || at > api.MaxTick:
		return api.ErrRange
	case !there && len(m.at) == api.MaxTimers:
		return api.ErrFull
	}
	m.at[key] = at
	return nil
}

func (m *model) clear(key int) bool {
	_, there := m.at[key]
	delete(m.at, key)
	return there
}

func (m *model) tick(n int) ([]int, error) {
	if n < 0 || n > api.MaxTick || m.now+n > api.MaxTick {
		return nil, api.ErrRange
	}
	m.now += n
	var keys []int
	for {
		key, at, is := m.next()
		if !is || at > m.now {
			return keys, nil
		}
		keys = append(keys, key)
		delete(m.at, key)
	}
}

// both is Timers, and the model of them: each call is done to both, its
// answers are held against each other, and then all that can be asked is.
type both struct {
	t     *testing.T
	is    *timers.Timers
	model *model
}

func newBoth(t *testing.T) both {
	t.Helper()
	b := both{t, timers.New(), newModel()}
	b.holds()
	return b
}

func (b both) set(key, at int) error {
	b.t.Helper()
	got, want := b.is.Set(key, at), b.model.set(key, at)
	if !errors.Is(got, want) {
		b.t.Fatalf("Set(%d, %d): %v, not %v", key, at, got, want)
	}
	b.holds(key)
	return got
}

func (b both) clear(key int) bool {
	b.t.Helper()
	got, want := b.is.Clear(key), b.model.clear(key)
	if got != want {
		b.t.Fatalf("Clear(%d): %v", key, got)
	}
	b.holds(key)
	return got
}

func (b both) tick(n int) ([]int, error) {
	b.t.Helper()
	got, err := b.is.Tick(n)
	want, wantErr := b.model.tick(n)
	if !slices.Equal(got, want) || !errors.Is(err, wantErr) {
		b.t.Fatalf("Tick(%d): %v, %v, not %v, %v", n, got, err, want, wantErr)
	}
	b.holds(want...)
	return got, err
}

// holds asks everything that can be asked of Timers without changing them, of
// all keys that are there, of those that are given and of some more.
func (b both) holds(keys ...int) {
	b.t.Helper()
	if got := b.is.Now(); got != b.model.now {
		b.t.Fatalf("Now: %d, not %d", got, b.model.now)
	}
	if got := b.is.Len(); got != len(b.model.at) {
		b.t.Fatalf("Len: %d, not %d", got, len(b.model.at))
	}
	key, at, is := b.is.Next()
	if k, a, i := b.model.next(); key != k || at != a || is != i {
		b.t.Fatalf("Next: %d, %d, %v, not %d, %d, %v", key, at, is, k, a, i)
	}
	keys = append(slices.Collect(maps.Keys(b.model.at)), keys...)
	for _, key := range append(keys, 0, 1, -1, 77, math.MinInt, math.MaxInt) {
		at, is := b.is.At(key)
		if a, i := b.model.at[key]; at != a || is != i {
			b.t.Fatalf("At(%d): %d, %v, not %d, %v", key, at, is, a, i)
		}
	}
}

// due is what is due when so many ticks go by, told beside the model.
func (b both) due(n int, want ...int) {
	b.t.Helper()
	if got, err := b.tick(n); err != nil || !slices.Equal(got, want) {
		b.t.Fatalf("Tick(%d): %v, %v, not %v", n, got, err, want)
	}
}

// settles sets a timer, which must be taken.
func (b both) settles(key, at int) {
	b.t.Helper()
	if err := b.set(key, at); err != nil {
		b.t.Fatalf("Set(%d, %d): %v", key, at, err)
	}
}

// refuses sets a timer, which must not be taken.
func (b both) refuses(key, at int, want error) {
	b.t.Helper()
	if err := b.set(key, at); !errors.Is(err, want) {
		b.t.Fatalf("Set(%d, %d): %v, not %v", key, at, err, want)
	}
}

// clears clears a timer: whether there must have been one is told beside the
// model.
func (b both) clears(key int, was bool) {
	b.t.Helper()
	if got := b.clear(key); got != was {
		b.t.Fatalf("Clear(%d): %v", key, got)
	}
}

// fill sets MaxTimers timers: key 0 at that tick, 1 at the one behind it, ..
func (b both) fill(at int) {
	b.t.Helper()
	for key := range api.MaxTimers {
		b.settles(key, at+key)
	}
}

func TestNewIsWithoutTimers(t *testing.T) {
	tm := timers.New()
	if tm == nil || tm.Now() != 0 || tm.Len() != 0 {
		t.Fatal("New isn't at tick 0 without timers")
	}
	if key, at, is := tm.Next(); key != 0 || at != 0 || is {
		t.Fatalf("Next: %d, %d, %v", key, at, is)
	}
	if at, is := tm.At(0); at != 0 || is {
		t.Fatalf("At(0): %d, %v", at, is)
	}
	if tm.Clear(0) {
		t.Fatal("Clear(0): there was one")
	}
	if keys, err := tm.Tick(0); len(keys) != 0 || err != nil {
		t.Fatalf("Tick(0): %v, %v", keys, err)
	}
}

func TestExample(t *testing.T) {
	tm := timers.New()
	if err := tm.Set(1, 5); err != nil {
		t.Fatal(err)
	}
	if err := tm.Set(2, 3); err != nil {
		t.Fatal(err)
	}
	keys, err := tm.Tick(9)
	if err != nil || !slices.Equal(keys, []int{2, 1}) {
		t.Fatalf("Tick(9): %v, %v", keys, err)
	}
	if tm.Now() != 9 || tm.Len() != 0 {
		t.Fatalf("now %d, %d timers", tm.Now(), tm.Len())
	}
}

func TestSetTakesTicksFromNow(t *testing.T) {
	for _, now := range []int{0, 1, 7, api.MaxTick - 1, api.MaxTick} {
		for _, at := range []int{now, now + 1, (now + api.MaxTick) / 2, api.MaxTick - 1, api.MaxTick} {
			if at < now || at > api.MaxTick {
				continue
			}
			b := newBoth(t)
			b.due(now)
			b.settles(4, at)
			if got, is := b.is.At(4); got != at || !is {
				t.Fatalf("At(4): %d, %v, not %d", got, is, at)
			}
			if key, got, is := b.is.Next(); key != 4 || got != at || !is {
				t.Fatalf("Next: %d, %d, %v, not 4, %d", key, got, is, at)
			}
			b.due(at-now, 4)
		}
	}
}

func TestSetRefusesTicksOutOfRange(t *testing.T) {
	for _, now := range []int{0, 1, 7, api.MaxTick} {
		b := newBoth(t)
		b.due(now)
		b.settles(4, api.MaxTick)
		for _, at := range []int{now - 1, -1, math.MinInt, api.MaxTick + 1, math.MaxInt} {
			b.refuses(4, at, api.ErrRange)
			b.refuses(5, at, api.ErrRange)
		}
		b.due(api.MaxTick-now, 4)
	}
}

func TestDueJustNow(t *testing.T) {
	b := newBoth(t)
	b.settles(1, 0)
	b.settles(2, 1)
	b.due(0, 1)
	b.due(0)
	b.due(1, 2)
	b.settles(3, 1)
	b.due(1, 3)
}

// TestDueAtItsTick: not a tick ahead, and once only.
func TestDueAtItsTick(t *testing.T) {
	b := newBoth(t)
	b.settles(9, 4)
	b.due(3)
	b.due(1, 9)
	b.due(0)
	b.due(100)
}

func TestFull(t *testing.T) {
	b := newBoth(t)
	b.fill(5)
	for _, key := range []int{api.MaxTimers, -1, math.MinInt, math.MaxInt} {
		b.refuses(key, 5, api.ErrFull)
		b.refuses(key, -1, api.ErrRange) // told first
		b.refuses(key, api.MaxTick+1, api.ErrRange)
	}
	for key := range api.MaxTimers {
		b.settles(key, 100-key) // in place of the one of this key
	}
	b.refuses(api.MaxTimers, 5, api.ErrFull)
	b.due(84)
	b.due(1, 15)
	b.settles(api.MaxTimers, 90) // there is room again
	b.refuses(15, 90, api.ErrFull)
	b.clears(0, true)
	b.settles(15, 91)
	b.refuses(0, 91, api.ErrFull)
	b.due(6, 14, 13, 12, 11, 10, api.MaxTimers, 9, 15)
}

func TestKeySetAnew(t *testing.T) {
	b := newBoth(t)
	b.settles(1, 5)
	b.settles(2, 6)
	b.settles(1, 7) // later
	b.due(5)
	b.settles(2, 8)
	b.settles(2, 5) // earlier
	b.settles(1, 7) // as it was
	if b.is.Len() != 2 {
		t.Fatalf("Len: %d", b.is.Len())
	}
	b.due(0, 2)
	b.due(50, 1)
	b.settles(1, 60) // it was due, and is set again
	b.due(5, 1)
}

// TestRefusedKeyStaysAsItWas: what can't be set anew is due as before.
func TestRefusedKeyStaysAsItWas(t *testing.T) {
	b := newBoth(t)
	b.due(3)
	b.settles(1, 5)
	b.refuses(1, 2, api.ErrRange)
	b.refuses(1, api.MaxTick+1, api.ErrRange)
	b.due(1)
	b.due(1, 1)
}

func TestClear(t *testing.T) {
	b := newBoth(t)
	for key := range 4 {
		b.settles(key, 10)
	}
	b.settles(-7, 3)
	b.clears(4, false)
	b.clears(10, false) // a tick, not a key
	b.clears(3, true)
	b.clears(3, false)
	b.clears(-7, true)
	b.clears(-7, false)
	b.clears(0, true)
	b.due(10, 1, 2)
	b.clears(1, false) // it was due
}

func TestTickTakesWhatIsLeft(t *testing.T) {
	for _, now := range []int{0, 1, 12345, api.MaxTick - 1, api.MaxTick} {
		b := newBoth(t)
		b.due(now)
		b.settles(1, api.MaxTick)
		b.due(api.MaxTick-now, 1)
		b.due(0)
	}
}

func TestTickRefusesTicksOutOfRange(t *testing.T) {
	for _, now := range []int{0, 1, 12345, api.MaxTick - 1, api.MaxTick} {
		for _, n := range []int{-1, -now - 1, math.MinInt, api.MaxTick - now + 1, api.MaxTick + 1, math.MaxInt - now, math.MaxInt} {
			b := newBoth(t)
			b.due(now)
			b.settles(1, now)
			b.settles(2, api.MaxTick)
			if keys, err := b.tick(n); len(keys) != 0 || !errors.Is(err, api.ErrRange) {
				t.Fatalf("Tick(%d) at %d: %v, %v", n, now, keys, err)
			}
			if b.is.Now() != now || b.is.Len() != 2 {
				t.Fatalf("Tick(%d) at %d changed something", n, now)
			}
		}
	}
}

// TestOrder: by ticks, whatever the keys, and those of one tick by their keys,
// however they were set.
func TestOrder(t *testing.T) {
	b := newBoth(t)
	for _, key := range []int{3, -3, 0, math.MaxInt, -1, math.MinInt, 2, 1, -2} {
		b.settles(key, 8)
	}
	for i, key := range []int{50, 40, -60, -50} {
		b.settles(key, 7-i)
	}
	b.settles(-100, 9)
	b.settles(2, 8) // set anew, to the same tick
	b.due(8, -50, -60, 40, 50, math.MinInt, -3, -2, -1, 0, 1, 2, 3, math.MaxInt)
	b.due(1, -100)
}

// TestNextIsFirst: what Next tells is what is due first, down to the last.
func TestNextIsFirst(t *testing.T) {
	b := newBoth(t)
	b.settles(5, 9)
	b.settles(-5, 9)
	b.settles(6, 2)
	b.settles(0, 0)
	b.settles(7, api.MaxTick)
	for _, want := range [][2]int{{0, 0}, {6, 2}, {-5, 9}, {5, 9}, {7, api.MaxTick}} {
		key, at, is := b.is.Next()
		if key != want[0] || at != want[1] || !is {
			t.Fatalf("Next: %d, %d, %v, not %v", key, at, is, want)
		}
		b.clears(key, true)
	}
	if key, at, is := b.is.Next(); key != 0 || at != 0 || is {
		t.Fatalf("Next of none: %d, %d, %v", key, at, is)
	}
}

func TestTimersShareNothing(t *testing.T) {
	a, b := newBoth(t), newBoth(t)
	a.settles(1, 5)
	b.settles(1, 6)
	b.settles(2, 3)
	a.due(5, 1)
	b.holds()
	b.due(6, 2, 1)
	a.holds()
}

// TestAnswersAreTheCallers: writing over one, and over the room behind it,
// changes neither the timers nor another answer, and no call writes into it.
func TestAnswersAreTheCallers(t *testing.T) {
	b := newBoth(t)
	b.fill(1)
	first, _ := b.tick(3)
	second, _ := b.tick(4)
	spoil(first)
	b.holds()
	if !slices.Equal(second, []int{3, 4, 5, 6}) {
		t.Fatalf("two answers of Tick share: %v", second)
	}
	for key := range 7 {
		b.settles(key, 8)
	}
	b.due(1, 0, 1, 2, 3, 4, 5, 6, 7)
	if !slices.Equal(first, []int{99, 99, 99}) || !slices.Equal(second, []int{3, 4, 5, 6}) {
		t.Fatalf("a later call wrote into an earlier answer: %v, %v", first, second)
	}
	b.due(20, 8, 9, 10, 11, 12, 13, 14, 15)
}

// spoil writes over an answer and over the room behind it.
func spoil(keys []int) {
	keys = keys[:cap(keys)]
	for i := range keys {
		keys[i] = 99
	}
}

// TestZeroTimers: they are nothing that the document speaks of, yet no call on
// them may panic.
func TestZeroTimers(t *testing.T) {
	var tm timers.Timers
	b := both{t, &tm, newModel()}
	b.holds()
	b.clear(1)
	b.due(0)
	b.settles(1, 2)
	b.due(2, 1)
}

// row is a row of numbers that is always the same.
type row uint32

// from is the next one of it, from low to high.
func (r *row) from(low, high int) int {
	*r = *r*1664525 + 1013904223
	return low + int(*r>>8)%(high-low+1)
}

// TestEveryOrder goes through long walks of calls (P2.1), and looks whether
// they came to all that can happen.
func TestEveryOrder(t *testing.T) {
	for seed := range 20 {
		r := row(seed)
		b := newBoth(t)
		seen := map[string]int{}
		for range 1000 {
			step(b, &r, seen)
		}
		for _, what := range []string{"set", "anew", "range", "full", "cleared", "none", "due", "several", "quiet", "refused"} {
			if seen[what] == 0 {
				t.Errorf("walk %d: never %s", seed, what)
			}
		}
	}
}

// step does one call of a walk, and counts what it came to.
func step(b both, r *row, seen map[string]int) {
	b.t.Helper()
	key := r.from(-12, 12)
	switch r.from(0, 9) {
	default:
		seen[stepSet(b, key, b.is.Now()+r.from(-2, 15))]++
	case 0:
		seen[stepClear(b, key)]++
	case 1:
		seen[stepTick(b, r.from(-2, 4))]++
	}
}

func stepClear(b both, key int) string {
	b.t.Helper()
	if b.clear(key) {
		return "cleared"
	}
	return "none"
}

func stepTick(b both, n int) string {
	b.t.Helper()
	keys, err := b.tick(n)
	switch {
	case err != nil:
		return "refused"
	case len(keys) == 0:
		return "quiet"
	case len(keys) == 1:
		return "due"
	}
	return "several"
}

func stepSet(b both, key, at int) string {
	b.t.Helper()
	_, there := b.model.at[key]
	switch err := b.set(key, at); {
	case errors.Is(err, api.ErrRange):
		return "range"
	case errors.Is(err, api.ErrFull):
		return "full"
	case there:
		return "anew"
	}
	return "set"
}

// TestTicksInParts lets the same ticks go by at once and in parts, some of
// them none, some refused (P2.2).
func TestTicksInParts(t *testing.T) {
	for seed := range 300 {
		r := row(seed)
		whole, parted := newBoth(t), newBoth(t)
		start := r.from(0, 9)
		whole.due(start)
		parted.due(start)
		for range r.from(0, api.MaxTimers) {
			key, at := r.from(-9, 9), start+r.from(0, 30)
			whole.settles(key, at)
			parted.settles(key, at)
		}
		n := r.from(0, 35)
		want, _ := whole.tick(n)
		if got := tickInParts(parted, &r, n); !slices.Equal(got, want) {
			t.Fatalf("%d ticks, row %d: in parts %v, at once %v", n, seed, got, want)
		}
		if !maps.Equal(whole.model.at, parted.model.at) {
			t.Fatalf("%d ticks, row %d: what is left is not the same", n, seed)
		}
		if whole.is.Now() != parted.is.Now() {
			t.Fatalf("%d ticks, row %d: now %d and %d", n, seed, whole.is.Now(), parted.is.Now())
		}
	}
}

// tickInParts lets so many ticks go by in parts: all keys that were due.
func tickInParts(b both, r *row, n int) []int {
	b.t.Helper()
	var all []int
	for n > 0 {
		part := r.from(0, min(n, 4))
		keys, err := b.tick(part)
		if err != nil {
			b.t.Fatalf("Tick(%d): %v", part, err)
		}
		all = append(all, keys...)
		n -= part
		if r.from(0, 3) == 0 {
			b.tick(-part - 1)
			b.tick(api.MaxTick - b.is.Now() + 1)
		}
	}
	keys, _ := b.tick(0)
	return append(all, keys...)
}

// TestGreatTicksInParts: the same up to MaxTick.
func TestGreatTicksInParts(t *testing.T) {
	const half = api.MaxTick / 2
	b := newBoth(t)
	for key, at := range []int{half + 1, half, half - 1, api.MaxTick, api.MaxTick - 1, half} {
		b.settles(key, at)
	}
	b.due(half, 2, 1, 5)
	b.due(half-1, 0, 4)
	b.due(1, 3)
	if _, err := b.tick(1); !errors.Is(err, api.ErrRange) {
		t.Fatalf("Tick beyond MaxTick: %v", err)
	}
}
