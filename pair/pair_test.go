package pair_test

import (
	"bytes"
	"errors"
	"math"
	"slices"
	"testing"

	"truchman/api"
	"truchman/end"
	"truchman/mode"
	"truchman/naws"
	"truchman/pair"
	"truchman/slc"
	"truchman/subneg"
)

// P21.1: the chapter's example.
func TestExample(t *testing.T) {
	b := newPair(t, agreeing(nil, []int{echo}), agreeing([]int{echo}, nil))
	b.mustAsk(0, him, echo, true)
	if n := b.rest(1000); n != 6 {
		t.Errorf("%d bytes have come", n)
	}
	b.mustBe(1, echo, "yes", "yes")
	b.mustBe(0, echo, "no", "no")
	b.holdRest()
}

// P21.1: on a new pair nothing has happened, and each end is of its own Config.
func TestNew(t *testing.T) {
	for _, row := range [][2]end.Config{{simple(), simple()}, {every(), other()}, {simple(), every()}} {
		b := newPair(t, row[0], row[1])
		b.mustWait(0, 0)
		b.mustHave("", "")
		b.holdRest()
		if b.rest(math.MaxInt) != 0 || b.move(0, 9) != 0 || b.move(1, 9) != 0 {
			t.Error("something came")
		}
	}
	b := newPair(t, every(), other())
	for _, i := range numbers {
		b.mustAsk(i, him, optNaws, true)
		b.mustAsk(i, him, optTtype, true)
	}
	b.rest(math.MaxInt)
	first, second := b.is.End(0).Hub(), b.is.End(1).Hub()
	if first.Peer() != other().Hub.Size || !slices.Equal(first.Types(), []string{"dumb", "tn3270", "xterm"}) {
		t.Errorf("the second one told %v, %q", first.Peer(), first.Types())
	}
	if second.Peer() != every().Hub.Size || !slices.Equal(second.Types(), []string{"vt100", "ansi"}) {
		t.Errorf("the first one told %v, %q", second.Peer(), second.Types())
	}
	b.holdRest()
}

// P21.1: what makes no end makes no pair; of two errors the first one's is told.
func TestNewErrors(t *testing.T) {
	large, nameless := simple(), simple()
	large.Hub.Size.Cols = 65536
	nameless.Hub.Types = []string{"vt 100"}
	for _, row := range []struct {
		a, b end.Config
		want error
	}{
		{large, simple(), api.ErrRange},
		{simple(), large, api.ErrRange},
		{nameless, simple(), api.ErrName},
		{simple(), nameless, api.ErrName},
		{large, nameless, api.ErrRange},
		{nameless, large, api.ErrName},
		{end.Config{}, nameless, api.ErrRange},
		{end.Config{}, end.Config{}, api.ErrRange},
		{nameless, end.Config{}, api.ErrName},
	} {
		if p, err := pair.New(row.a, row.b); p != nil || !errors.Is(err, row.want) {
			t.Errorf("New: %v, %v, not %v", p, err, row.want)
		}
	}
}

// P21.1: there are two ends, each one and the same.
func TestEnd(t *testing.T) {
	b := newPair(t, every(), every())
	first, second := b.is.End(0), b.is.End(1)
	if first == nil || second == nil || first == second || first != b.is.End(0) || second != b.is.End(1) {
		t.Fatal("there aren't two ends")
	}
	b.mustAsk(0, us, echo, true)
	b.rest(math.MaxInt)
	if !first.On(us, echo) || first.On(him, echo) || second.On(us, echo) || !second.On(him, echo) {
		t.Error("the ends aren't those that were asked")
	}
	b.holdAll()
}

// P21.1: another number is an error ahead of all others, or nothing; it changes
// nothing.
func TestOtherNumbers(t *testing.T) {
	b := newPair(t, every(), every())
	b.say(0, 'a')
	b.mustAsk(1, him, optLines, true)
	for _, i := range others() {
		for _, side := range []int{us, him, 2, -1} {
			for _, option := range []int{echo, mark, optLines, -1, 256} {
				for _, on := range ways {
					if err := b.ask(i, side, option, on); !errors.Is(err, api.ErrRange) {
						t.Errorf("Ask of %d, %d, %d, %v: %v", i, side, option, on, err)
					}
				}
			}
		}
		for _, mask := range []int{mode.Edit, 0, 4, -1} {
			if err := b.set(i, mask); !errors.Is(err, api.ErrRange) {
				t.Errorf("Set of %d, %d: %v", i, mask, err)
			}
		}
		if err := b.say(i, 'x'); !errors.Is(err, api.ErrRange) {
			t.Errorf("Say of %d: %v", i, err)
		}
		if err := b.is.Say(i, nil); !errors.Is(err, api.ErrRange) {
			t.Errorf("Say of %d, nothing: %v", i, err)
		}
		if n := b.move(i, 5); n != 0 || b.is.Waits(i) != 0 || b.is.Data(i) != nil || b.is.End(i) != nil {
			t.Errorf("of %d %d came", i, n)
		}
		b.mustWait(3, 1)
	}
	b.holdAll()
}

// P21.1: Ask is the end's, with its errors in their order, and what it sends is on
// its way to the other end.
func TestAsk(t *testing.T) {
	for _, i := range numbers {
		b := newPair(t, every(), every())
		b.mustAsk(i, us, echo, true)
		b.mustAsk(i, him, echo, true)
		b.mustAsk(i, him, mark, true)
		if b.is.Waits(1-i) != 9 || b.is.Waits(i) != 0 {
			t.Errorf("%d and %d wait", b.is.Waits(1-i), b.is.Waits(i))
		}
		b.mustAsk(i, us, echo, false)
		if b.is.Waits(1-i) != 9 {
			t.Errorf("what is asked for later is sent")
		}
		b.mustAsk(i, us, echo, true)
		for _, row := range []struct {
			side, option int
			on           bool
			want         error
		}{
			{us, mark, true, api.ErrKind},
			{him, mark, false, api.ErrKind},
			{2, echo, true, api.ErrKind},
			{-1, 256, true, api.ErrKind},
			{us, 256, true, api.ErrRange},
			{him, -1, false, api.ErrRange},
			{us, echo, true, api.ErrState},
			{him, sga, false, api.ErrState},
		} {
			if err := b.ask(i, row.side, row.option, row.on); !errors.Is(err, row.want) {
				t.Errorf("Ask of %d, %d, %d, %v: %v, not %v", i, row.side, row.option, row.on, err, row.want)
			}
		}
		if b.is.Waits(1-i) != 9 || countsOf(b.is.End(i)) != [3]int{0, 5, 3} || countsOf(b.is.End(1-i)) != [3]int{} {
			t.Errorf("%d wait, the counts are %v, %v", b.is.Waits(1-i), countsOf(b.is.End(i)), countsOf(b.is.End(1-i)))
		}
		b.rest(math.MaxInt)
		b.holdRest()
	}
}

// P21.1: each option is asked on and off, of each side, by each end, and told to
// the other one.
func TestAskAll(t *testing.T) {
	for _, i := range numbers {
		for _, side := range sides {
			b := newPair(t, every(), other())
			who := i
			if side == him {
				who = 1 - i
			}
			for _, option := range without(allOptions(), mark) {
				b.mustAsk(i, side, option, true)
				b.rest(math.MaxInt)
				b.mustBe(who, option, "yes", "yes")
				b.mustBe(1-who, option, "no", "no")
			}
			b.holdRest()
			for _, option := range without(allOptions(), mark) {
				b.mustAsk(1-i, 1-side, option, false)
				b.rest(math.MaxInt)
				b.mustBe(who, option, "no", "no")
			}
			b.holdRest()
		}
	}
}

// P21.1: who doesn't agree is asked in vain.
func TestNotAgreed(t *testing.T) {
	for _, i := range numbers {
		for _, side := range sides {
			configs := [2]end.Config{every(), every()}
			configs[1-i] = simple()
			b := newPair(t, configs[0], configs[1])
			for _, option := range without(allOptions(), mark) {
				b.mustAsk(i, side, option, true)
			}
			if n := b.rest(math.MaxInt); n != 2*3*255 {
				t.Errorf("%d bytes came", n)
			}
			for _, option := range allOptions() {
				b.mustBe(0, option, "no", "no")
				b.mustBe(1, option, "no", "no")
			}
			b.holdRest()
		}
	}
}

// P21.1: Set is the end's, with its errors, and what it tells is on its way.
func TestSet(t *testing.T) {
	for _, i := range numbers {
		b := newPair(t, every(), every())
		for _, n := range append(far(), 0, mode.Edit, 31) {
			if err := b.set(i, n); !errors.Is(err, api.ErrState) {
				t.Errorf("Set of %d: %v", n, err)
			}
		}
		b.mustWait(0, 0)
		b.mustAsk(i, him, optLines, true)
		b.rest(math.MaxInt)
		if err := b.set(1-i, mode.Edit); !errors.Is(err, api.ErrState) {
			t.Errorf("Set by the tail: %v", err)
		}
		for _, n := range append(far(), mode.Ack, 31, 32) {
			if err := b.set(i, n); !errors.Is(err, api.ErrForm) {
				t.Errorf("Set of %d: %v", n, err)
			}
		}
		if err := b.set(i, 0); !errors.Is(err, api.ErrDup) {
			t.Errorf("Set of what it has: %v", err)
		}
		b.mustWait(0, 0)
		if err := b.set(i, mode.Edit|mode.Trap); err != nil {
			t.Error(err)
		}
		if err := b.set(i, mode.Edit); !errors.Is(err, api.ErrState) {
			t.Errorf("Set, while it waits: %v", err)
		}
		if b.is.Waits(1-i) != 7 || b.is.Waits(i) != 0 {
			t.Errorf("%d and %d wait", b.is.Waits(1-i), b.is.Waits(i))
		}
		if n := b.rest(math.MaxInt); n != 14 {
			t.Errorf("%d bytes came", n)
		}
		if h := b.is.End(i).Hub(); h.Head() != mode.Edit || h.Waits() != 0 {
			t.Errorf("%d, %d", h.Head(), h.Waits())
		}
		b.holdLines(i)
		b.holdRest()
	}
}

// P21.1: what is said is on its way to the other end, as layer 20 says it, and
// comes to that one alone.
func TestSay(t *testing.T) {
	for _, row := range []struct {
		said string
		sent int
	}{
		{"", 0},
		{"a", 1},
		{"abc", 3},
		{"\r", 2},
		{"\r\n", 2},
		{"\r\r\n\r", 6},
		{"\r\x00", 3},
		{"\x00", 1},
		{"\xff", 2},
		{"\xff\xfd\x01", 4},
		{"a\xff\r\xff\xf0", 8},
	} {
		for _, i := range numbers {
			b := newPair(t, every(), every())
			if err := b.say(i, []byte(row.said)...); err != nil {
				t.Error(err)
			}
			if b.is.Waits(1-i) != row.sent || b.is.Waits(i) != 0 || len(b.is.Data(1-i)) != 0 {
				t.Errorf("%q: %d and %d wait", row.said, b.is.Waits(1-i), b.is.Waits(i))
			}
			if n := b.rest(math.MaxInt); n != row.sent {
				t.Errorf("%q: %d bytes came", row.said, n)
			}
			if string(b.is.Data(1-i)) != row.said || len(b.is.Data(i)) != 0 {
				t.Errorf("%q: %q and %q came", row.said, b.is.Data(1-i), b.is.Data(i))
			}
			b.holdRest()
		}
	}
	b := newPair(t, simple(), simple())
	for _, said := range [][]byte{nil, {}} {
		if err := b.is.Say(0, said); err != nil {
			t.Error(err)
		}
	}
	b.mustWait(0, 0)
}

// P21.1: what is said raw, as Binary is on, comes raw; the other way it doesn't.
func TestRaw(t *testing.T) {
	b := newPair(t, every(), every())
	b.mustAsk(0, us, binary, true)
	b.rest(math.MaxInt)
	b.say(0, 13, 0, 13)
	b.say(1, 13, 0, 13)
	b.mustWait(5, 3)
	b.rest(math.MaxInt)
	b.mustHave("\r\x00\r", "\r\x00\r")
	b.mustAsk(1, him, binary, false)
	b.rest(math.MaxInt)
	b.say(0, 13)
	b.mustWait(0, 2)
	b.rest(math.MaxInt)
	b.mustHave("\r\x00\r", "\r\x00\r\r")
	b.mustAsk(0, us, binary, true)
	b.say(0, 13) // it isn't on at Us as yet, but will be at Him when it comes
	b.rest(math.MaxInt)
	b.mustHave("\r\x00\r", "\r\x00\r\r\r\x00")
	b.holdRest()
}

// P21.1: of the bytes that are on their way the first ones come, as many as are
// told, or as there are.
func TestMove(t *testing.T) {
	for _, i := range numbers {
		b := newPair(t, every(), every())
		b.say(1-i, []byte("abcdefg")...)
		b.say(i, []byte("xyz")...)
		for _, row := range []struct {
			n, moved int
			came     string
		}{
			{0, 0, ""},
			{-1, 0, ""},
			{math.MinInt, 0, ""},
			{1, 1, "a"},
			{2, 2, "abc"},
			{0, 0, "abc"},
			{3, 3, "abcdef"},
			{2, 1, "abcdefg"},
			{1, 0, "abcdefg"},
			{math.MaxInt, 0, "abcdefg"},
		} {
			if n := b.move(i, row.n); n != row.moved || string(b.is.Data(i)) != row.came {
				t.Errorf("Move of %d: %d, %q came", row.n, n, b.is.Data(i))
			}
			if b.is.Waits(i) != 7-len(row.came) || b.is.Waits(1-i) != 3 || len(b.is.Data(1-i)) != 0 {
				t.Errorf("Move of %d: %d and %d wait", row.n, b.is.Waits(i), b.is.Waits(1-i))
			}
		}
		b.say(1-i, 'h')
		if n := b.move(i, math.MaxInt); n != 1 || string(b.is.Data(i)) != "abcdefgh" {
			t.Errorf("%d, %q", n, b.is.Data(i))
		}
		b.holdAll()
	}
}

// P21.1: what an end answers to bytes that come is on its way behind the Move with
// which they came, not ahead of it, and behind what is on its way already.
func TestMoveAnswered(t *testing.T) {
	b := newPair(t, every(), every())
	b.mustAsk(0, him, optNaws, true)
	b.say(0, 'a')
	b.say(1, 'b')
	b.mustWait(1, 4)
	b.move(1, 2)
	b.mustWait(1, 2)
	b.mustBe(1, optNaws, "no", "wantyes")
	b.move(1, 1)
	b.mustWait(1+3+11, 1)
	b.mustBe(1, optNaws, "yes", "wantyes")
	b.move(0, 1)
	b.mustHave("b", "")
	b.move(0, 2)
	b.mustBe(1, optNaws, "yes", "wantyes")
	b.move(0, 1)
	b.mustBe(1, optNaws, "yes", "yes")
	b.move(0, 10)
	if is := b.is.End(0).Hub().Peer(); is != (naws.Size{}) {
		t.Errorf("the size is %v ahead of its end", is)
	}
	b.move(0, 1)
	if is := b.is.End(0).Hub().Peer(); is != every().Hub.Size {
		t.Errorf("the size is %v", is)
	}
	b.mustWait(0, 1)
	b.move(1, 9)
	b.mustHave("b", "a")
	b.holdRest()
}

// P21.1: turn by turn all bytes come to end 0, and then to end 1, with what end 0
// answered meanwhile; behind a turn Rest ends, if at least so many have come.
func TestRest(t *testing.T) {
	for _, most := range append(far()[:10], 0) {
		b := newPair(t, every(), every())
		b.say(0, 'a')
		b.say(1, 'b')
		if n := b.rest(most); n != 0 {
			t.Errorf("Rest of %d: %d", most, n)
		}
		b.mustWait(1, 1)
		b.mustHave("", "")
	}
	for _, row := range []struct {
		name string
		do   func(b *both)
		most int
		came []int
	}{
		{"said to end 1", func(b *both) { b.say(0, 'a', 'b', 'c') }, 1, []int{3, 0}},
		{"said to end 0", func(b *both) { b.say(1, 'a', 'b', 'c') }, 2, []int{3, 0}},
		{"said to both", func(b *both) { b.say(0, 'a', 'b', 'c'); b.say(1, 'd', 'e') }, 1, []int{5, 0}},
		{"said to both, as many as to end 0", func(b *both) { b.say(0, 'a', 'b', 'c'); b.say(1, 'd', 'e') }, 2, []int{5, 0}},
		{"asked by end 0", func(b *both) { b.ask(0, him, echo, true) }, 1, []int{3, 3, 0}},
		{"asked by end 0, three", func(b *both) { b.ask(0, him, echo, true) }, 3, []int{3, 3, 0}},
		{"asked by end 0, four", func(b *both) { b.ask(0, him, echo, true) }, 4, []int{6, 0}},
		{"asked by end 1", func(b *both) { b.ask(1, him, echo, true) }, 1, []int{6, 0}},
		{"asked by end 1, six", func(b *both) { b.ask(1, him, echo, true) }, 6, []int{6, 0}},
		{"types, turn by turn", func(b *both) { b.ask(1, him, optTtype, true) }, 1, []int{6, 6 + 11, 6 + 10, 6 + 10, 0}},
		{"types, two turns", func(b *both) { b.ask(1, him, optTtype, true) }, 7, []int{6 + 6 + 11, 6 + 10, 6 + 10, 0}},
		{"types, all", func(b *both) { b.ask(1, him, optTtype, true) }, math.MaxInt, []int{55, 0}},
	} {
		b := newPair(t, every(), every())
		row.do(b)
		for i, want := range row.came {
			if n := b.rest(row.most); n != want {
				t.Errorf("%s: Rest %d: %d, not %d", row.name, i, n, want)
			}
		}
		b.mustWait(0, 0)
		b.holdRest()
	}
}

// P21.1: both agree, if each state at Us of the one is that at Him of the other
// one, whatever it is; of each option, both ways.
func TestAgree(t *testing.T) {
	for _, option := range without(allOptions(), mark) {
		for _, i := range numbers {
			for _, side := range sides {
				b := newPair(t, every(), every())
				for _, row := range []struct {
					do   func()
					want bool
				}{
					{func() {}, true},
					{func() { b.mustAsk(i, side, option, true) }, false},
					{func() { b.move(1-i, 2) }, false},
					{func() { b.move(1-i, 1) }, false},
					{func() { b.move(i, 2) }, false},
					{func() { b.move(i, 1) }, true},
					{func() { b.mustAsk(1-i, 1-side, option, false) }, false},
					{func() { b.rest(math.MaxInt) }, true},
				} {
					row.do()
					if is := b.is.Agree(); is != row.want || is != b.m.agree() {
						t.Fatalf("of %d at %d, asked by %d: Agree: %v", option, side, i, is)
					}
				}
			}
		}
	}
}

// P21.1: both agree, too, where both want the same, and it isn't calm.
func TestAgreeWanted(t *testing.T) {
	b := newPair(t, every(), every())
	b.mustAsk(0, us, echo, true)
	b.mustAsk(1, him, echo, true)
	b.mustBe(0, echo, "wantyes", "wantyes")
	if !b.is.Agree() || b.is.End(0).Calm() {
		t.Error("they don't agree, or it is calm")
	}
	b.mustAsk(0, us, echo, false)
	b.mustBe(0, echo, "wantyes!", "wantyes")
	if b.is.Agree() {
		t.Error("they agree, where one state is opposite")
	}
	b.mustAsk(1, him, echo, false)
	b.mustBe(0, echo, "wantyes!", "wantyes!")
	if !b.is.Agree() {
		t.Error("they don't agree")
	}
	b.mustAsk(1, us, echo, true)
	b.mustBe(0, echo, "wantyes!", "wantyes!")
	if b.is.Agree() {
		t.Error("they agree one way alone")
	}
	b.rest(math.MaxInt)
	b.mustBe(0, echo, "no", "no")
	b.mustBe(1, echo, "yes", "yes")
	b.holdRest()
}

// P21.1: the data that came are all that ever came.
func TestData(t *testing.T) {
	b := newPair(t, every(), every())
	var want [2][]byte
	for n := range 3000 {
		i := n % 2
		part := bytes.Repeat([]byte{byte(n), byte(n >> 4), 13}, n%5)
		b.say(i, part...)
		want[1-i] = append(want[1-i], part...)
		b.move(n/2%2, n%11)
	}
	b.rest(math.MaxInt)
	for _, i := range numbers {
		if !bytes.Equal(b.is.Data(i), want[i]) {
			t.Errorf("to %d came other data", i)
		}
	}
	b.holdSaid()
}

// P21.1: rows lose nothing, however much is on its way.
func TestMuch(t *testing.T) {
	p, err := pair.New(every(), every())
	if err != nil {
		t.Fatal(err)
	}
	said := bytes.Repeat([]byte{'a', 13, 255, 0, 13, 10}, 50000)
	p.Say(0, said)
	p.Say(0, said)
	if n := p.Waits(1); n != 2*50000*8 {
		t.Errorf("%d wait", n)
	}
	for p.Move(1, 9973) > 0 {
	}
	if !bytes.Equal(p.Data(1), slices.Concat(said, said)) || len(p.Data(0)) != 0 {
		t.Error("other data came")
	}
}

// P21.1: every verb and subnegotiation of one end comes to the other one.
func TestTold(t *testing.T) {
	b := newPair(t, every(), other())
	for _, option := range []int{optNaws, optTtype, optStatus, optLines} {
		b.mustAsk(0, him, option, true)
	}
	b.rest(math.MaxInt)
	h, peer := b.is.End(0).Hub(), b.is.End(1).Hub()
	if h.Peer() != other().Hub.Size || !slices.Equal(h.Types(), other().Hub.Types) {
		t.Errorf("%v, %q", h.Peer(), h.Types())
	}
	for f, want := range map[int]slc.Setting{
		1: {Level: slc.Value, Value: 9},
		2: {Level: slc.None},
		3: {Level: slc.None},
		4: {Level: slc.None},
		5: {Level: slc.None},
	} {
		if h.Char(f) != want || peer.Char(f) != want {
			t.Errorf("of %d they have %v and %v, not %v", f, h.Char(f), peer.Char(f), want)
		}
	}
	if err := b.set(0, mode.Edit|mode.Soft|mode.Lit); err != nil {
		t.Error(err)
	}
	b.rest(math.MaxInt)
	if h.Head() != mode.Soft|mode.Lit {
		t.Errorf("the mask is %d", h.Head())
	}
	b.holdLines(0)
	b.holdRest()
	b.mustAsk(1, us, optNaws, false)
	b.mustAsk(1, us, optLines, false)
	b.rest(math.MaxInt)
	if h.Peer() != (naws.Size{}) || h.Head() != 0 {
		t.Errorf("%v, %d", h.Peer(), h.Head())
	}
	b.holdRest()
}

// scribble writes over a list of bytes, and the room behind it.
func scribble(b []byte) {
	b = b[:cap(b)]
	for i := range b {
		b[i] = 'X'
	}
}

// roomy is a list with room behind it.
func roomy[T any](list ...T) []T { return append(make([]T, 0, len(list)+8), list...) }

// What is given stays as it was, with the room behind it, and can be written over.
func TestGiven(t *testing.T) {
	policy, types, holds := roomy(echo, optTtype, optLines), roomy("vt100", "ansi"), roomy(slc.Setting{Level: slc.Value, Value: 3})
	c := agreeing(policy, policy)
	c.Hub = subneg.Config{Size: naws.Size{Cols: 80, Rows: 24}, Types: types, Holds: holds}
	b := newPair(t, c, c)
	if !slices.Equal(policy[:5], []int{echo, optTtype, optLines, 0, 0}) || types[:3][2] != "" || holds[:2][1] != (slc.Setting{}) {
		t.Error("New has written")
	}
	policy[0], types[0], holds[0] = sga, "XXXXX", slc.Setting{}
	b.mustAsk(0, him, echo, true)
	b.mustAsk(0, him, optTtype, true)
	b.mustAsk(0, him, optLines, true)
	b.rest(math.MaxInt)
	if is := b.is.End(0).Hub(); !b.is.End(0).On(him, echo) || !slices.Equal(is.Types(), []string{"vt100", "ansi"}) || is.Char(1).Value != 3 {
		t.Errorf("New has kept what is given: %q, %v", is.Types(), is.Char(1))
	}
	said := roomy[byte]('a', 13, 255)
	if err := b.is.Say(0, said); err != nil || !bytes.Equal(said[:6], []byte{'a', 13, 255, 0, 0, 0}) {
		t.Errorf("Say has written: %v, %v", said[:6], err)
	}
	scribble(said)
	b.is.Rest(math.MaxInt)
	b.mustHave("", "a\r\xff")
}

// What is answered is the caller's: writing over it changes nothing else.
func TestAnswered(t *testing.T) {
	b := newPair(t, every(), every())
	for _, said := range []string{"abc", "def", "g"} {
		b.say(0, []byte(said)...)
		b.say(1, []byte(said)...)
		b.rest(math.MaxInt)
		for _, i := range numbers {
			data := b.is.Data(i)
			again := b.is.Data(i)
			scribble(data)
			if !bytes.Equal(again, b.is.Data(i)) || bytes.Equal(again, data) {
				t.Errorf("two answers share: %q", again)
			}
		}
		b.hold()
	}
	b.mustHave("abcdefg", "abcdefg")
	b.holdSaid()
}

// Two pairs are apart, also where their Configs are one.
func TestApart(t *testing.T) {
	c := every()
	a, b := newPair(t, c, c), newPair(t, c, c)
	a.mustAsk(0, him, optTtype, true)
	a.say(1, 'x')
	b.mustAsk(1, us, echo, true)
	b.say(0, 'y')
	a.rest(math.MaxInt)
	b.holdAll()
	b.mustHave("", "")
	b.rest(math.MaxInt)
	a.holdRest()
	b.holdRest()
	a.mustHave("x", "")
	b.mustHave("", "y")
}

// The zero Pair does nothing that would end the program.
func TestZero(t *testing.T) {
	var p pair.Pair
	for _, i := range []int{0, 1, 2, -1} {
		for _, side := range sides {
			for _, option := range []int{echo, mark, optTtype, optNaws, optLines, optStatus} {
				p.Ask(i, side, option, true)
			}
		}
		p.Say(i, []byte("a\r\xff"))
		p.Set(i, mode.Edit)
		p.Move(i, 5)
	}
	p.Rest(10000)
	for _, i := range []int{0, 1, 2, -1} {
		p.Set(i, mode.Edit)
		p.End(i)
		p.Waits(i)
		p.Data(i)
	}
	p.Rest(10000)
	p.Agree()
}
