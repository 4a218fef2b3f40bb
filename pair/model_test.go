package pair_test

import (
	"bytes"
	"errors"
	"fmt"
	"math"
	"slices"
	"testing"

	"truchman/api"
	"truchman/end"
	"truchman/mode"
	"truchman/naws"
	"truchman/pair"
	"truchman/qstate"
	"truchman/slc"
	"truchman/subneg"
	"truchman/table"
)

// Sides and options by their numbers, as layers 11 and 4 have them.
const (
	us, him                                  = 0, 1
	binary, echo, sga, optStatus, mark       = 0, 1, 3, 5, 6
	optTtype, optNaws, optLines, optNameless = 24, 31, 34, 77
)

// The ends, the sides, and what may be asked for.
var (
	numbers = []int{0, 1}
	sides   = []int{us, him}
	ways    = []bool{true, false}
)

// simple is a Config that agrees to nothing, and holds nothing.
func simple() end.Config { return agreeing(nil, nil) }

// agreeing is a Config that agrees to options on our side, and on his.
func agreeing(us, him []int) end.Config {
	return end.Config{
		Policy: table.Policy{Us: us, Him: him},
		Hub:    subneg.Config{Size: naws.Size{Cols: 80, Rows: 24}, Types: []string{"vt100"}},
	}
}

// every is a Config that agrees to all options on both sides, with something of
// everything in its hub.
func every() end.Config {
	all := allOptions()
	return end.Config{
		Policy: table.Policy{Us: all, Him: all},
		Hub: subneg.Config{
			Size:  naws.Size{Cols: 255, Rows: 0xff0d},
			Types: []string{"vt100", "ansi"},
			Holds: []slc.Setting{{Level: slc.Value, Value: 3}, {Level: slc.None}, {Level: slc.Cant, Value: 255}},
			Can:   mode.Edit | mode.Soft,
		},
	}
}

// other is a Config that agrees to all, and holds other things than every.
func other() end.Config {
	c := every()
	c.Hub = subneg.Config{
		Size:  naws.Size{Cols: 132, Rows: 50},
		Types: []string{"dumb", "tn3270", "xterm"},
		Holds: []slc.Setting{{Level: slc.Value, Value: 9}, {Level: slc.Value, Value: 255}, {Level: slc.Cant, Value: 7}, {Level: slc.Cant, Value: 0}},
		Can:   mode.Trap | mode.Soft | mode.Lit,
	}
	return c
}

// allOptions is all options.
func allOptions() []int {
	var all []int
	for option := range 256 {
		all = append(all, option)
	}
	return all
}

// far is numbers that are far below, or beyond, what is ever meant; among them
// such whose last bits are those of what is.
func far() []int {
	return []int{
		math.MinInt, math.MinInt + 1, -1<<32 + 1, -1 << 32, math.MinInt32, -1<<16 + 1, -256, -255, -2, -1,
		256, 257, 512 + 34, 1 << 16, math.MaxInt32, 1 << 31, 1 << 32, 1<<32 + 1, math.MaxInt - 1, math.MaxInt,
	}
}

// others is numbers of which none is an end's.
func others() []int { return append(far(), 2, 3, 7) }

// model is what a pair should hold, told plainly: two ends of layer 20, the bytes
// that are on their way to each, and the data that came to each.
type model struct {
	ends [2]*end.End
	way  [2][]byte
	came [2][]byte
}

// flush lets what an end has to send be on its way, piece by piece.
func (m *model) flush(i int) {
	to := 1
	if i == 1 {
		to = 0
	}
	for _, x := range m.ends[i].Take() {
		m.way[to] = append(m.way[to], x.Bytes...)
	}
}

// move is what Move should answer.
func (m *model) move(i, n int) int {
	if i != 0 && i != 1 {
		return 0
	}
	moved := 0
	for moved < n && len(m.way[i]) > 0 {
		c := m.way[i][0]
		m.way[i] = m.way[i][1:]
		data, _ := m.ends[i].Feed(c, false)
		m.came[i] = append(m.came[i], data...)
		m.flush(i)
		moved++
	}
	return moved
}

// rest is what Rest should answer.
func (m *model) rest(most int) int {
	n := 0
	for len(m.way[0]) > 0 || len(m.way[1]) > 0 {
		if n >= most {
			return n
		}
		n += m.move(0, math.MaxInt)
		n += m.move(1, math.MaxInt)
	}
	return n
}

// agree is what Agree should answer.
func (m *model) agree() bool {
	for option := range 256 {
		if m.ends[0].State(us, option) != m.ends[1].State(him, option) {
			return false
		}
		if m.ends[1].State(us, option) != m.ends[0].State(him, option) {
			return false
		}
	}
	return true
}

// both is a pair, and what it should be; said is what was said to each end.
type both struct {
	t    *testing.T
	is   *pair.Pair
	m    *model
	said [2][]byte
}

// newPair is a pair on which nothing has happened, and its model.
func newPair(t *testing.T, a, b end.Config) *both {
	t.Helper()
	is, err := pair.New(a, b)
	if err != nil || is == nil {
		t.Fatal(err)
	}
	m := &model{}
	for i, c := range []end.Config{a, b} {
		m.ends[i], err = end.New(c)
		if err != nil {
			t.Fatal(err)
		}
	}
	return &both{t: t, is: is, m: m}
}

// ask asks for an option.
func (b *both) ask(i, side, option int, on bool) error {
	b.t.Helper()
	err, want := b.is.Ask(i, side, option, on), api.ErrRange
	if i == 0 || i == 1 {
		_, want = b.m.ends[i].Ask(side, option, on)
		b.m.flush(i)
	}
	if !same(err, want) {
		b.t.Fatalf("Ask of %d, %d, %d, %v: %v, not %v", i, side, option, on, err, want)
	}
	b.hold()
	return err
}

// set sets a mask.
func (b *both) set(i, mask int) error {
	b.t.Helper()
	err, want := b.is.Set(i, mask), api.ErrRange
	if i == 0 || i == 1 {
		want = b.m.ends[i].Set(mask)
		b.m.flush(i)
	}
	if !same(err, want) {
		b.t.Fatalf("Set of %d, %d: %v, not %v", i, mask, err, want)
	}
	b.hold()
	return err
}

// say says data.
func (b *both) say(i int, list ...byte) error {
	b.t.Helper()
	var want error = api.ErrRange
	if i == 0 || i == 1 {
		want = nil
		b.m.ends[i].Say(list)
		b.m.flush(i)
		b.said[1-i] = append(b.said[1-i], list...)
	}
	err := b.is.Say(i, list)
	if !same(err, want) {
		b.t.Fatalf("Say of %d, %v: %v, not %v", i, list, err, want)
	}
	b.hold()
	return err
}

// move lets bytes come to an end.
func (b *both) move(i, n int) int {
	b.t.Helper()
	moved := b.is.Move(i, n)
	if want := b.m.move(i, n); moved != want {
		b.t.Fatalf("Move of %d, %d: %d, not %d", i, n, moved, want)
	}
	b.hold()
	return moved
}

// rest lets all bytes come.
func (b *both) rest(most int) int {
	b.t.Helper()
	n := b.is.Rest(most)
	if want := b.m.rest(most); n != want {
		b.t.Fatalf("Rest of %d: %d, not %d", most, n, want)
	}
	b.hold()
	return n
}

// mustAsk asks where that must be possible.
func (b *both) mustAsk(i, side, option int, on bool) {
	b.t.Helper()
	if err := b.ask(i, side, option, on); err != nil {
		b.t.Fatalf("Ask of %d, %d, %d, %v: %v", i, side, option, on, err)
	}
}

// mustWait holds how many are on their way to each end.
func (b *both) mustWait(first, second int) {
	b.t.Helper()
	if b.is.Waits(0) != first || b.is.Waits(1) != second {
		b.t.Fatalf("%d and %d are on their way, not %d and %d", b.is.Waits(0), b.is.Waits(1), first, second)
	}
}

// mustHave holds the data that came to each end.
func (b *both) mustHave(first, second string) {
	b.t.Helper()
	if string(b.is.Data(0)) != first || string(b.is.Data(1)) != second {
		b.t.Fatalf("%q and %q came, not %q and %q", b.is.Data(0), b.is.Data(1), first, second)
	}
}

// mustBe holds the words of an option's states at Us of an end, and at Him of the
// other one.
func (b *both) mustBe(i, option int, ours, his string) {
	b.t.Helper()
	x, y := b.is.End(i).State(us, option), b.is.End(1-i).State(him, option)
	if qstate.Word(x) != ours || qstate.Word(y) != his {
		b.t.Fatalf("of %d they have %s and %s, not %s and %s", option, qstate.Word(x), qstate.Word(y), ours, his)
	}
}

// hold holds what is soon asked.
func (b *both) hold() {
	b.t.Helper()
	for _, i := range numbers {
		if n := b.is.Waits(i); n != len(b.m.way[i]) {
			b.t.Fatalf("Waits of %d: %d, not %d", i, n, len(b.m.way[i]))
		}
		if data := b.is.Data(i); !bytes.Equal(data, b.m.came[i]) {
			b.t.Fatalf("Data of %d: %q, not %q", i, data, b.m.came[i])
		}
		if is, want := countsOf(b.is.End(i)), countsOf(b.m.ends[i]); is != want {
			b.t.Fatalf("Counts of %d: %v, not %v", i, is, want)
		}
	}
}

// holdAll holds all that can be asked.
func (b *both) holdAll() {
	b.t.Helper()
	b.hold()
	for _, i := range numbers {
		b.holdEnd(b.is.End(i), b.m.ends[i])
	}
	if is, want := b.is.Agree(), b.m.agree(); is != want {
		b.t.Fatalf("Agree: %v, not %v", is, want)
	}
	for _, i := range others() {
		if b.is.End(i) != nil || b.is.Waits(i) != 0 || len(b.is.Data(i)) != 0 {
			b.t.Fatalf("%d is an end", i)
		}
	}
}

// holdEnd holds all that an end answers against one that is as it should be.
func (b *both) holdEnd(e, want *end.End) {
	b.t.Helper()
	for _, side := range sides {
		for option := range 256 {
			if e.State(side, option) != want.State(side, option) {
				b.t.Fatalf("State of %d, %d: %v, not %v", side, option, e.State(side, option), want.State(side, option))
			}
		}
	}
	if e.Calm() != want.Calm() || e.Deaf() || len(e.Take()) != 0 {
		b.t.Fatalf("Calm: %v, not %v; Deaf: %v", e.Calm(), want.Calm(), e.Deaf())
	}
	if is, want := hubOf(e.Hub()), hubOf(want.Hub()); is != want {
		b.t.Fatalf("the hub is %s, not %s", is, want)
	}
}

// countsOf is an end's counts.
func countsOf(e *end.End) [3]int {
	heard, asked, sent := e.Counts()
	return [3]int{heard, asked, sent}
}

// hubOf is all that a hub answers, as a line.
func hubOf(h *subneg.Hub) string {
	var chars []slc.Setting
	for f := range slc.Functions + 2 {
		chars = append(chars, h.Char(f))
	}
	m, is := h.Mask()
	return fmt.Sprint(h.Peer(), h.Types(), h.Report(), h.Head(), h.Tail(), chars, m.Bytes(), is, h.Waits())
}

// same is whether two errors are one.
func same(err, want error) bool {
	if want == nil {
		return err == nil
	}
	return errors.Is(err, want)
}

// holdRest holds what must be so when nothing is on its way: all is calm, and
// agrees, and what each one heard of the other one is so.
func (b *both) holdRest() {
	b.t.Helper()
	b.mustWait(0, 0)
	if !b.is.Agree() || !b.m.agree() {
		b.t.Fatal("they don't agree")
	}
	for _, i := range numbers {
		e, peer := b.is.End(i), b.is.End(1-i)
		if !e.Calm() {
			b.t.Fatalf("%d isn't calm", i)
		}
		for option := range 256 {
			if x := e.State(him, option); x != peer.State(us, option) || !qstate.Calm(x) {
				b.t.Fatalf("of %d they have %v and %v", option, x, peer.State(us, option))
			}
		}
		if e.On(him, optTtype) && len(e.Hub().Types()) == 0 {
			b.t.Fatalf("%d was told no types", i)
		}
		if e.On(him, optNaws) == (e.Hub().Peer() == naws.Size{}) {
			b.t.Fatalf("%d was told the size %v", i, e.Hub().Peer())
		}
	}
	b.holdAll()
}

// holdLines holds what the head and the tail have: the same of all, and nobody
// waits.
func (b *both) holdLines(head int) {
	b.t.Helper()
	h, t := b.is.End(head).Hub(), b.is.End(1-head).Hub()
	if h.Head() != t.Tail() || h.Waits() != 0 || t.Waits() != 0 {
		b.t.Fatalf("the masks are %d and %d, they wait for %d and %d", h.Head(), t.Tail(), h.Waits(), t.Waits())
	}
	for f := 1; f <= slc.Functions; f++ {
		if h.Char(f) != t.Char(f) {
			b.t.Fatalf("of %d they have %v and %v", f, h.Char(f), t.Char(f))
		}
	}
}

// holdSaid holds that the data that came are a beginning of what was said, and all
// of it, if nothing is on its way.
func (b *both) holdSaid() {
	b.t.Helper()
	for _, i := range numbers {
		came := b.is.Data(i)
		if !bytes.HasPrefix(b.said[i], came) || b.is.Waits(i) == 0 && len(came) != len(b.said[i]) {
			b.t.Fatalf("to %d came %q, said was %q", i, came, b.said[i])
		}
	}
}

// without is options without one of them.
func without(list []int, option int) []int {
	return slices.DeleteFunc(slices.Clone(list), func(x int) bool { return x == option })
}
