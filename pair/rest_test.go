package pair_test

import (
	"bytes"
	"math"
	"math/rand"
	"slices"
	"testing"

	"truchman/end"
	"truchman/iac"
	"truchman/mode"
	"truchman/slc"
	"truchman/subneg"
	"truchman/table"
)

// most is more bytes than any pair here sends till it comes to rest.
const most = 1 << 20

// comesToRest lets all bytes come, and holds that there is an end of them.
func (b *both) comesToRest() {
	b.t.Helper()
	if n := b.rest(most); n >= most {
		b.t.Fatal("they don't come to rest")
	}
	if n := b.rest(most); n != 0 {
		b.t.Fatalf("behind Rest %d bytes came", n)
	}
	b.holdRest()
}

// act is a call, by its words.
type act struct {
	words string
	do    func(b *both)
}

// acts is the calls of which all orders are gone through.
func acts() []act {
	var list []act
	for _, i := range numbers {
		name := []string{"0 ", "1 "}[i]
		list = append(list,
			act{name + "asks for his size", func(b *both) { b.ask(i, him, optNaws, true) }},
			act{name + "asks his size off", func(b *both) { b.ask(i, him, optNaws, false) }},
			act{name + "asks for our size", func(b *both) { b.ask(i, us, optNaws, true) }},
			act{name + "asks our size off", func(b *both) { b.ask(i, us, optNaws, false) }},
			act{name + "asks for our binary", func(b *both) { b.ask(i, us, binary, true) }},
			act{name + "asks for his lines", func(b *both) { b.ask(i, him, optLines, true) }},
			act{name + "asks for a mark", func(b *both) { b.ask(i, him, mark, true) }},
			act{name + "sets", func(b *both) { b.set(i, mode.Edit) }},
			act{name + "says", func(b *both) { b.say(i, 'a', 13) }},
			act{name + "one comes", func(b *both) { b.move(i, 1) }},
			act{name + "three come", func(b *both) { b.move(i, 3) }},
			act{name + "all come", func(b *both) { b.move(i, math.MaxInt) }},
		)
	}
	return append(list,
		act{"a turn", func(b *both) { b.rest(1) }},
		act{"rest", func(b *both) { b.rest(most) }},
		act{"another number", func(b *both) { b.ask(2, us, echo, true); b.say(-1, 'a'); b.set(2, 1); b.move(2, 1) }},
	)
}

// P21.1, P21.2: every three calls, in every order, behind one another; and then all
// comes to rest.
func TestOrders(t *testing.T) {
	list := acts()
	for _, x := range list {
		for _, y := range list {
			for _, z := range list {
				b := newPair(t, every(), other())
				for _, a := range []act{x, y, z} {
					a.do(b)
				}
				if is, want := b.is.Agree(), b.m.agree(); is != want {
					t.Fatalf("%s, %s, %s: Agree: %v", x.words, y.words, z.words, is)
				}
				if n := b.rest(most); n >= most || !b.is.Agree() || !b.is.End(0).Calm() || !b.is.End(1).Calm() {
					t.Fatalf("%s, %s, %s: behind %d bytes it isn't calm", x.words, y.words, z.words, n)
				}
			}
		}
	}
}

// step is what can happen in an order: an end does the next one of its acts, or the
// next token comes to it.
type step struct {
	i     int
	comes bool
}

// steps is what can happen next.
func (b *both) steps(done [2]int, acts [2][]act) []step {
	var list []step
	for _, i := range numbers {
		if done[i] < len(acts[i]) {
			list = append(list, step{i, false})
		}
		if len(b.m.way[i]) > 0 {
			list = append(list, step{i, true})
		}
	}
	return list
}

// tokenSize is how many bytes the first token of a row has.
func tokenSize(row []byte) int {
	var tokens iac.Tokens
	for i, c := range row {
		if _, is := tokens.Feed(c); is {
			return i + 1
		}
	}
	return len(row)
}

// everyOrder goes through all orders of both ends' acts and of the tokens that come,
// till nothing is left: how many there are.
func everyOrder(fresh func() *both, acts [2][]act, rest func(b *both)) int {
	var path, widths []int
	for orders := 1; ; orders++ {
		b, done := fresh(), [2]int{}
		for n := 0; ; n++ {
			list := b.steps(done, acts)
			if len(list) == 0 {
				break
			}
			if n == len(path) {
				path, widths = append(path, 0), append(widths, len(list))
			}
			s := list[path[n]]
			if s.comes {
				b.move(s.i, tokenSize(b.m.way[s.i]))
				continue
			}
			acts[s.i][done[s.i]].do(b)
			done[s.i]++
		}
		rest(b)
		n := len(path) - 1
		for n >= 0 && path[n]+1 == widths[n] {
			n--
		}
		if n < 0 {
			return orders
		}
		path, widths = path[:n+1], widths[:n+1]
		path[n]++
	}
}

// asking is an act: an end asks, where that can be.
func asking(i, side, option int, on bool) act {
	return act{"asks", func(b *both) { b.ask(i, side, option, on) }}
}

// setting is an act: an end sets a mask, where that can be.
func setting(i, n int) act {
	return act{"sets", func(b *both) { b.set(i, n) }}
}

// saying is an act: an end says something.
func saying(i int, said string) act {
	return act{"says", func(b *both) { b.say(i, []byte(said)...) }}
}

// P21.2: whoever asks for what, in every order of tokens: all comes to rest, is
// calm, and agrees.
func TestEveryOrder(t *testing.T) {
	for name, row := range map[string][2][]act{
		"one option, from both sides": {
			{asking(0, him, echo, true), asking(0, him, echo, false)},
			{asking(1, us, echo, true), asking(1, us, echo, false)},
		},
		"one option, off and on": {
			{asking(0, him, echo, true), asking(0, him, echo, false), asking(0, him, echo, true)},
			{asking(1, us, echo, false)},
		},
		"both sides of an option": {
			{asking(0, him, sga, true), asking(0, us, sga, true)},
			{asking(1, us, sga, true)},
		},
		"size": {
			{asking(0, him, optNaws, true), asking(0, him, optNaws, false)},
			{asking(1, us, optNaws, true)},
		},
		"types": {
			{asking(0, him, optTtype, true), asking(0, him, optTtype, false), asking(0, him, optTtype, true)},
			nil,
		},
		"lines, both ways": {
			{asking(0, him, optLines, true), setting(0, mode.Soft)},
			{asking(1, him, optLines, true)},
		},
		"marks, and what is said": {
			{asking(0, him, mark, true), saying(0, "\r"), saying(0, "\n")},
			{saying(1, "a")},
		},
	} {
		orders := everyOrder(func() *both { return newPair(t, every(), other()) }, row, (*both).holdRest)
		if orders < 2 {
			t.Errorf("%s: there are %d orders", name, orders)
		}
	}
}

// P21.2: Linemode is asked for one way alone, in every order of tokens: then head
// and tail have the same.
func TestEveryOrderOfLines(t *testing.T) {
	for _, head := range numbers {
		tail := 1 - head
		for name, row := range map[string][2][]act{
			"a mask": {
				{asking(head, him, optLines, true), setting(head, mode.Soft|mode.Edit), setting(head, mode.Trap)},
				nil,
			},
			"both ask": {
				{asking(head, him, optLines, true), setting(head, mode.Soft)},
				{asking(tail, us, optLines, true)},
			},
			"off and on by the head": {
				{asking(head, him, optLines, true), asking(head, him, optLines, false), asking(head, him, optLines, true)},
				nil,
			},
			"off by the tail": {
				{setting(head, mode.Edit|mode.Soft)},
				{asking(tail, us, optLines, true), asking(tail, us, optLines, false)},
			},
		} {
			acts := row
			if head == 1 {
				acts = [2][]act{row[1], row[0]}
			}
			orders := everyOrder(func() *both { return linePair(t, head, every().Hub, other().Hub) }, acts, func(b *both) {
				b.holdRest()
				b.holdLines(head)
			})
			if orders < 2 {
				t.Errorf("%s: there are %d orders", name, orders)
			}
		}
	}
}

// linePair is a pair of which the head agrees to Linemode at Him, the tail to it at
// Us, and both agree to all else.
func linePair(t *testing.T, head int, a, b subneg.Config) *both {
	t.Helper()
	var configs [2]end.Config
	configs[head] = end.Config{Policy: table.Policy{Us: without(allOptions(), optLines), Him: allOptions()}, Hub: a}
	configs[1-head] = end.Config{Policy: table.Policy{Us: allOptions(), Him: without(allOptions(), optLines)}, Hub: b}
	return newPair(t, configs[0], configs[1])
}

// often is the options of which most is asked by chance.
var often = []int{binary, echo, sga, optStatus, mark, optTtype, optNaws, optLines, optNameless}

// chance is what happens by chance: the same for the same number.
type chance struct{ *rand.Rand }

func newChance(n int) chance { return chance{rand.New(rand.NewSource(int64(n)))} }

// some is some of a list.
func (c chance) some(list []int) []int {
	return slices.DeleteFunc(slices.Clone(list), func(int) bool { return c.Intn(2) == 0 })
}

// option is an option of a list, or rarely any one but Binary and Linemode.
func (c chance) option(list []int) int {
	n := c.Intn(256)
	if c.Intn(12) > 0 || n == binary || n == optLines {
		return list[c.Intn(len(list))]
	}
	return n
}

// data is data by chance, of which many bytes are of some meaning.
func (c chance) data() []byte {
	list := make([]byte, c.Intn(6))
	for i := range list {
		list[i] = []byte{13, 13, 0, 0, 10, 255, 240, 250, 'a', byte(c.Intn(256))}[c.Intn(10)]
	}
	return list
}

// hub is what a hub is made of, by chance.
func (c chance) hub() subneg.Config {
	h := [...]subneg.Config{every().Hub, other().Hub, simple().Hub}[c.Intn(3)]
	h.Can, h.Holds = c.Intn(32), nil
	for range c.Intn(22) {
		h.Holds = append(h.Holds, slc.Setting{Level: c.Intn(4), Value: c.Intn(2) * c.Intn(256)})
	}
	return h
}

// call is a call by chance: asks are of these options alone, and of sides that may
// be asked for.
func (b *both) call(c chance, options []int, may func(i, side, option int) bool) {
	b.t.Helper()
	i := c.Intn(2)
	switch c.Intn(16) {
	case 0, 1, 2, 3, 4:
		side, option := c.Intn(2), c.option(options)
		if may(i, side, option) {
			b.ask(i, side, option, c.Intn(3) > 0)
		}
	case 5:
		b.set(i, c.Intn(34)-1)
	case 6:
		b.set(i, []int{0, mode.Edit, mode.Trap, mode.Edit | mode.Soft, mode.Lit}[c.Intn(5)])
	case 7, 8, 9:
		b.say(i, c.data()...)
	case 10, 11, 12:
		b.move(i, c.Intn(9))
	case 13:
		b.move(i, c.Intn(100))
	case 14:
		b.rest(c.Intn(40) - 2)
	case 15:
		b.others(c)
	}
}

// others is calls of numbers that are no end's, or of what can't be asked for.
func (b *both) others(c chance) {
	b.t.Helper()
	list := others()
	n := list[c.Intn(len(list))]
	b.ask(n, c.Intn(2), c.Intn(256), true)
	b.set(n, c.Intn(32))
	b.say(n, 'x')
	b.move(n, 3)
	b.ask(c.Intn(2), n, echo, true)
	b.ask(c.Intn(2), c.Intn(2), list[c.Intn(len(list)-3)], true)
}

// anything may be asked for.
func anything(i, side, option int) bool { return true }

// P21.1, P21.2: whatever was asked for, and however bytes came, all comes to rest,
// is calm, and agrees.
func TestChance(t *testing.T) {
	for n := range 600 {
		c := newChance(n)
		configs := [2]end.Config{every(), every()}
		for i := range configs {
			configs[i].Policy = table.Policy{Us: c.some(often), Him: c.some(often)}
			configs[i].Hub = c.hub()
		}
		b := newPair(t, configs[0], configs[1])
		for range 3 {
			for range c.Intn(50) {
				b.call(c, often, anything)
			}
			b.holdAll()
			b.comesToRest()
		}
	}
}

// P21.2: where Linemode is agreed to, and asked for, one way alone, whatever else
// happens, head and tail have the same of masks and characters, and nobody waits.
func TestChanceOfLines(t *testing.T) {
	for n := range 600 {
		c := newChance(1000 + n)
		head := c.Intn(2)
		b := linePair(t, head, c.hub(), c.hub())
		b.ask(head, him, optLines, true)
		options := []int{optLines, optLines, optLines, optTtype, optNaws, binary}
		for range 4 {
			for range c.Intn(40) {
				b.call(c, options, func(i, side, option int) bool {
					return option != optLines || (side == him) == (i == head)
				})
			}
			b.comesToRest()
			b.holdLines(head)
		}
	}
}

// P21.2: of all masks, and all that a tail can do, both have the same.
func TestMasks(t *testing.T) {
	for can := range 32 {
		for _, head := range numbers {
			h := every().Hub
			h.Can = can
			b := linePair(t, head, other().Hub, h)
			b.mustAsk(head, him, optLines, true)
			b.comesToRest()
			for mask := range 32 {
				b.set(head, mask)
				b.comesToRest()
				b.holdLines(head)
				if err := b.set(head, mask); mask&mode.Ack == 0 && mask&^can == 0 && err == nil {
					t.Fatalf("of %d, where %d can be, the mask %d was told", mask, can, mask)
				}
				b.comesToRest()
			}
		}
	}
}

// P21.2: of every two settings that the two sides hold, both have the same.
func TestCharacters(t *testing.T) {
	settings := []slc.Setting{
		{Level: slc.None}, {Level: slc.Cant}, {Level: slc.Cant, Value: 1}, {Level: slc.Cant, Value: 255},
		{Level: slc.Value}, {Level: slc.Value, Value: 1}, {Level: slc.Value, Value: 255}, {Level: slc.Default},
	}
	for _, x := range settings {
		for _, y := range settings {
			for _, head := range numbers {
				a, c := every().Hub, other().Hub
				a.Holds, c.Holds = slices.Repeat([]slc.Setting{x}, slc.Functions), slices.Repeat([]slc.Setting{y}, slc.Functions)
				b := linePair(t, head, a, c)
				b.mustAsk(1-head, us, optLines, true)
				b.comesToRest()
				b.holdLines(head)
			}
		}
	}
}

// P21.3: where nobody agrees to Binary, or asks for it, the data that came are what
// was said, whatever else goes on, and however they came.
func TestChanceOfData(t *testing.T) {
	options := without(often, binary)
	for n := range 600 {
		c := newChance(2000 + n)
		configs := [2]end.Config{every(), other()}
		for i := range configs {
			all := without(allOptions(), binary)
			configs[i].Policy = table.Policy{Us: c.some(all), Him: c.some(all)}
		}
		b := newPair(t, configs[0], configs[1])
		for range 120 {
			b.call(c, options, anything)
			b.holdSaid()
		}
		b.comesToRest()
		b.holdSaid()
	}
}

// P21.3: every text of some bytes, said at once and byte by byte, comes as it was.
func TestEveryText(t *testing.T) {
	signs := []byte{13, 10, 0, 255, 253, 240, 'a'}
	for n := range 7 * 7 * 7 * 7 {
		text := []byte{signs[n%7], signs[n/7%7], signs[n/49%7], signs[n/343]}
		for _, i := range numbers {
			b := newPair(t, simple(), simple())
			b.say(i, text...)
			for _, c := range text {
				b.say(i, c)
			}
			b.say(i, text[:2]...)
			b.say(i, text[2:]...)
			b.comesToRestSoon()
			if !bytes.Equal(b.is.Data(1-i), slices.Concat(text, text, text)) || len(b.is.Data(i)) != 0 {
				t.Fatalf("of %v came %v", text, b.is.Data(1-i))
			}
		}
	}
}

// comesToRestSoon lets all bytes come, where nothing is asked for.
func (b *both) comesToRestSoon() {
	b.t.Helper()
	b.rest(most)
	b.mustWait(0, 0)
}

// P21.3: each byte that there is comes as it was, both ways.
func TestEveryByte(t *testing.T) {
	for _, config := range []end.Config{simple(), {Policy: table.Policy{Us: without(allOptions(), binary), Him: without(allOptions(), binary)}, Hub: every().Hub}} {
		b := newPair(t, config, config)
		for c := range 256 {
			b.say(0, byte(c))
			b.say(1, byte(c), byte(c))
			b.move(c%2, c%5)
		}
		b.comesToRest()
		b.holdSaid()
	}
}
