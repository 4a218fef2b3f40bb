package subneg_test

import (
	"math/rand"
	"slices"
	"testing"

	"truchman/iac"
	"truchman/naws"
	"truchman/slc"
	"truchman/status"
	"truchman/subneg"
	"truchman/table"
)

// message is a verb, or a subnegotiation, that is on its way.
type message struct {
	verb, option int
	body         []byte
}

// peer is a hub with its table, joined with another one: what it still is to do,
// and what it told and the other one hasn't heard.
type peer struct {
	h    *hub
	acts []func(p *peer)
	out  []message
}

// newPeer is a peer that agrees to some options on both sides.
func newPeer(t *testing.T, c subneg.Config, agrees []int, acts ...func(p *peer)) *peer {
	t.Helper()
	return &peer{h: newHub(t, c, table.New(table.Policy{Us: agrees, Him: agrees})), acts: acts}
}

// send lets a verb go, if there is one.
func (p *peer) send(verb, option int) {
	if verb != 0 {
		p.out = append(p.out, message{verb: verb, option: option})
	}
}

// tell lets subnegotiations go.
func (p *peer) tell(list []subneg.Sub) {
	for _, x := range list {
		p.out = append(p.out, message{option: x.Option, body: x.Body})
	}
}

// hear lets a peer hear a message, and tell what comes of it. An error is what
// the model answers, too: what was on its way when the option went off.
func (p *peer) hear(m message) {
	p.h.t.Helper()
	if m.verb == 0 {
		told, _ := p.h.token(iac.Token{Kind: sub, Option: m.option, Body: m.body})
		p.tell(told)
		return
	}
	heard, err := p.h.x.Hear(m.verb, m.option)
	if err != nil {
		p.h.t.Fatal(err)
	}
	p.send(heard.Verb, m.option)
	if heard.Turned {
		p.tell(p.h.turn(heard.Side, m.option, isOn(p.h.x, heard.Side, m.option)))
	}
}

// asks is an act: an option is asked on, or off, where that can be.
func asks(side, option int, on bool) func(p *peer) {
	return func(p *peer) {
		was := isOn(p.h.x, side, option)
		verb, err := p.h.x.Ask(side, option, on)
		if err != nil {
			return
		}
		p.send(verb, option)
		if was && !isOn(p.h.x, side, option) {
			p.tell(p.h.turn(side, option, false))
		}
	}
}

// sets is an act: a mask of lines is set, where that can be.
func sets(n int) func(p *peer) {
	return func(p *peer) {
		if x, err := p.h.set(n); err == nil {
			p.tell([]subneg.Sub{x})
		}
	}
}

// says is an act: a subnegotiation is told, where the option is on at a side.
func says(side, option int, body ...byte) func(p *peer) {
	return func(p *peer) {
		if isOn(p.h.x, side, option) {
			p.tell(one(option, body...))
		}
	}
}

// joined is two peers.
type joined [2]*peer

// can is what can happen next: an act of a peer (0, 1), or that it hears what the
// other one told (2, 3).
func (j joined) can() []int {
	var list []int
	for i, p := range j {
		if len(p.acts) > 0 {
			list = append(list, i)
		}
		if len(j[1-i].out) > 0 {
			list = append(list, 2+i)
		}
	}
	return list
}

// step lets one of these happen.
func (j joined) step(n int) {
	p, other := j[n%2], j[1-n%2]
	if n < 2 {
		act := p.acts[0]
		p.acts = p.acts[1:]
		act(p)
		return
	}
	m := other.out[0]
	other.out = other.out[1:]
	p.hear(m)
}

// everyOrder goes through all orders in which joined peers, made anew for each,
// come to rest: how many there are.
func everyOrder(fresh func() joined, rest func(j joined)) int {
	var path, widths []int
	for orders := 1; ; orders++ {
		j := fresh()
		for i := 0; ; i++ {
			can := j.can()
			if len(can) == 0 {
				break
			}
			if i == len(path) {
				path, widths = append(path, 0), append(widths, len(can))
			}
			j.step(can[path[i]])
		}
		rest(j)
		i := len(path) - 1
		for i >= 0 && path[i]+1 == widths[i] {
			i--
		}
		if i < 0 {
			return orders
		}
		path, widths = path[:i+1], widths[:i+1]
		path[i]++
	}
}

// mustAgree holds what a peer heard of another one against what that one is.
func mustAgree(t *testing.T, a, b *peer) {
	t.Helper()
	for _, option := range options {
		if isOn(a.h.x, him, option) != isOn(b.h.x, us, option) {
			t.Fatalf("they don't agree on %d", option)
		}
	}
	size, list := naws.Size{}, []string(nil)
	if isOn(a.h.x, him, optNaws) {
		size = b.h.m.size
	}
	if a.h.is.Peer() != size {
		t.Fatalf("the size is %v, not %v", a.h.is.Peer(), size)
	}
	if isOn(a.h.x, him, optTtype) {
		list = b.h.m.cycle[:len(b.h.m.cycle)-1]
		mustHaveTypes(t, a.h, list)
	}
}

// mustAgreeOnLines holds what both have of Linemode, which one side does alone.
func mustAgreeOnLines(t *testing.T, head, tail *peer) {
	t.Helper()
	for f := 1; f <= functions; f++ {
		if head.h.is.Char(f) != tail.h.is.Char(f) {
			t.Fatalf("of %d they have %v and %v", f, head.h.is.Char(f), tail.h.is.Char(f))
		}
	}
	if head.h.is.Head() != tail.h.is.Tail() {
		t.Fatalf("the head has %d, the tail %d", head.h.is.Head(), tail.h.is.Tail())
	}
	mustWait(t, head.h, 0)
	mustWait(t, tail.h, 0)
}

// two is a Config that isn't like full.
func two() subneg.Config {
	return subneg.Config{
		Size:  naws.Size{Cols: 132, Rows: 50},
		Types: []string{"dumb", "tn3270"},
		Holds: []slc.Setting{{Level: value, Value: 1}, {Level: value, Value: 2}, {Level: cant, Value: 3}, {Level: cant, Value: 0}},
		Can:   trap | soft | lit,
	}
}

// P18.1: whoever asks for what, in every order: both rest, and know of each other
// what is.
func TestJoinedEveryOrder(t *testing.T) {
	for word, row := range map[string]struct{ a, b []func(p *peer) }{
		"size": {
			[]func(p *peer){asks(him, optNaws, true), asks(him, optNaws, false)},
			[]func(p *peer){asks(us, optNaws, true)},
		},
		"size, both ways": {
			[]func(p *peer){asks(him, optNaws, true), asks(us, optNaws, true)},
			[]func(p *peer){asks(us, optNaws, true)},
		},
		"types": {
			[]func(p *peer){asks(him, optTtype, true), asks(him, optTtype, false), asks(him, optTtype, true)},
			nil,
		},
		"types, off by who has them": {
			[]func(p *peer){asks(him, optTtype, true)},
			[]func(p *peer){asks(us, optTtype, false), asks(us, optTtype, true)},
		},
		"lines": {
			[]func(p *peer){asks(him, optLines, true), sets(edit | soft), sets(trap)},
			nil,
		},
		"lines, off and on": {
			[]func(p *peer){asks(him, optLines, true), asks(him, optLines, false), asks(him, optLines, true)},
			nil,
		},
		"lines, with a mask": {
			[]func(p *peer){asks(him, optLines, true), says(him, optLines, do, 2, 64), says(him, optLines, dont, 2), sets(edit)},
			nil,
		},
		"lines, off by who does them": {
			[]func(p *peer){sets(edit | soft)},
			[]func(p *peer){asks(us, optLines, true), asks(us, optLines, false)},
		},
	} {
		orders := everyOrder(func() joined {
			return joined{newPeer(t, full(), options, row.a...), newPeer(t, two(), options, row.b...)}
		}, func(j joined) {
			mustAgree(t, j[0], j[1])
			mustAgree(t, j[1], j[0])
			mustAgreeOnLines(t, j[0], j[1])
		})
		if orders < 2 {
			t.Errorf("%s: there are %d orders", word, orders)
		}
	}
}

// P18.1: who agrees to nothing turns nothing, in whatever order.
func TestJoinedNotAgreed(t *testing.T) {
	var acts []func(p *peer)
	for _, option := range []int{optNaws, optLines} {
		acts = append(acts, asks(him, option, true))
	}
	everyOrder(func() joined {
		return joined{newPeer(t, full(), options, acts...), newPeer(t, two(), nil, asks(us, optTtype, false))}
	}, func(j joined) {
		for _, p := range j {
			if p.h.is.Peer() != (naws.Size{}) || len(p.h.is.Types()) != 0 || p.h.is.Waits() != 0 {
				t.Fatal("something turned")
			}
		}
	})
}

// P18.1: a report that is asked for is that of the other one's table, as it was
// when that one heard it.
func TestJoinedStatus(t *testing.T) {
	acts := []func(p *peer){asks(him, optStatus, true), says(him, optStatus, 1), says(him, optStatus, 1)}
	everyOrder(func() joined {
		return joined{newPeer(t, full(), options, acts...), newPeer(t, two(), options, asks(him, optNaws, true))}
	}, func(j joined) {
		says(him, optStatus, 1)(j[0])
		for len(j.can()) > 0 {
			j.step(j.can()[0])
		}
		want := []status.Entry{{Verb: will, Option: optStatus}, {Verb: do, Option: optNaws}}
		if got := j[0].h.is.Report(); !slices.Equal(got, want) {
			t.Fatalf("the report is %v", got)
		}
	})
}

// chance is a source of what happens by chance: the same for the same number.
type chance struct{ *rand.Rand }

func newChance(n int64) chance { return chance{rand.New(rand.NewSource(n))} }

// of is one of a list.
func of[T any](c chance, list []T) T { return list[c.Intn(len(list))] }

// config is a Config by chance, mostly of what is right.
func (c chance) config() subneg.Config {
	k := subneg.Config{
		Size:  naws.Size{Cols: c.Intn(65536), Rows: c.Intn(300)},
		Types: names(1 + c.Intn(8)),
		Can:   c.Intn(64),
	}
	for range c.Intn(22) {
		k.Holds = append(k.Holds, c.setting())
	}
	return k
}

// setting is a setting by chance, mostly one that is right.
func (c chance) setting() slc.Setting {
	x := slc.Setting{Level: of(c, []int{none, cant, value, value, value, deflt}), Value: c.Intn(256)}
	if x.Level == none || x.Level == deflt {
		x.Value = 0
	}
	if c.Intn(10) == 0 {
		x = slc.Setting{Level: c.Intn(7) - 1, Value: c.Intn(300) - 20}
	}
	return x
}

// bytes is so many bytes by chance.
func (c chance) bytes(n int) []byte {
	list := make([]byte, n)
	c.Read(list)
	return list
}

// token is a token by chance, mostly a Sub of an option of which something is
// heard.
func (c chance) token() iac.Token {
	k := iac.Token{Kind: sub, Option: of(c, []int{optNaws, optTtype, optStatus, optLines, optLines, optLines})}
	k.Body = c.body(k.Option)
	switch c.Intn(40) {
	case 0:
		k.Kind = c.Intn(7)
	case 1:
		k.Cut = true
	case 2:
		k.Option = c.Intn(256)
	case 3:
		k.Body = c.bytes(c.Intn(257))
	case 4:
		k.Body = k.Body[:c.Intn(len(k.Body)+1)]
	case 5:
		k.Body = append(k.Body, byte(c.Intn(256)))
	case 6:
		if len(k.Body) > 0 {
			k.Body[c.Intn(len(k.Body))] = byte(c.Intn(256))
		}
	}
	return k
}

// body is a body of an option by chance.
func (c chance) body(option int) []byte {
	switch option {
	case optNaws:
		return c.bytes(4)
	case optTtype:
		return of(c, [][]byte{{1}, {1}, typeBody(of(c, names(5))), typeBody(of(c, names(2)))})
	case optStatus:
		if c.Intn(2) == 0 {
			return []byte{1}
		}
		b := []byte{0}
		for range c.Intn(6) {
			b = append(b, byte(will+c.Intn(4)), byte(c.Intn(256)))
		}
		return b
	}
	return c.lines()
}

// lines is a body of Linemode by chance.
func (c chance) lines() []byte {
	switch c.Intn(6) {
	case 0:
		return []byte{1, byte(c.Intn(32) &^ ack)}
	case 1:
		return []byte{1, byte(c.Intn(32) | ack)}
	case 2:
		return append([]byte{do, 2}, c.bytes(c.Intn(33))...)
	case 3:
		return []byte{of(c, []byte{will, wont, dont}), 2}
	}
	b := []byte{3}
	for range c.Intn(5) {
		x := c.setting()
		b = append(b, byte(1+c.Intn(functions)), byte(x.Level&3|c.Intn(2)*128), byte(x.Value))
	}
	return b
}

// tables is tables on which the options are on by chance, and one that is none.
func (c chance) tables(t *testing.T) []*table.Table {
	t.Helper()
	list := []*table.Table{tableAt(t, atBoth, options...), tableAt(t, atUs, options...), tableAt(t, atHim, options...), nil, tableOf(t, every(), every())}
	for range 4 {
		var ours, his []int
		for _, option := range append(slices.Clone(options), c.Perm(256)[:3]...) {
			if c.Intn(2) == 0 {
				ours = append(ours, option)
			}
			if c.Intn(2) == 0 {
				his = append(his, option)
			}
		}
		list = append(list, tableOf(t, ours, his))
	}
	return list
}

// P18.1, P18.2: calls by chance.
func TestByChance(t *testing.T) {
	for n := range int64(300) {
		c := newChance(n)
		h := newHub(t, c.config(), nil)
		tables := c.tables(t)
		h.x = tables[0]
		for range 150 {
			switch c.Intn(12) {
			case 0:
				h.x = of(c, tables)
			case 1:
				h.set(c.Intn(34) - 1)
			case 2:
				h.turn(c.Intn(4)-1, of(c, options), c.Intn(2) == 0)
			case 3:
				if c.Intn(20) == 0 {
					h.turn(c.Intn(2), optLines, true)
				}
			default:
				h.token(c.token())
			}
		}
		h.probe()
	}
}

// act is an act by chance.
func (c chance) act() func(p *peer) {
	switch c.Intn(6) {
	case 0:
		return sets(of(c, []int{0, edit, trap, edit | soft, lit | trap, ack}))
	case 1:
		option := of(c, []int{optTtype, optStatus})
		return says(him, option, 1)
	case 2:
		return says(him, optLines, of(c, []byte{do, dont}), 2)
	}
	return asks(of(c, []int{us, him}), of(c, options), c.Intn(3) > 0)
}

// P18.1: acts by chance, in orders by chance. Where Linemode is on at both, both
// ask for characters, and nothing promises that they rest: the steps are bounded.
func TestJoinedByChance(t *testing.T) {
	for n := range int64(400) {
		c := newChance(n)
		j := joined{newPeer(t, c.config(), options), newPeer(t, c.config(), options)}
		for _, p := range j {
			for range 1 + c.Intn(12) {
				p.acts = append(p.acts, c.act())
			}
		}
		for range 600 {
			can := j.can()
			if len(can) == 0 {
				mustAgreeOnSize(t, j[0], j[1])
				mustAgreeOnSize(t, j[1], j[0])
				break
			}
			j.step(of(c, can))
		}
	}
}

// mustAgreeOnSize holds the size that a peer heard against the other one's.
func mustAgreeOnSize(t *testing.T, a, b *peer) {
	t.Helper()
	want := naws.Size{}
	if isOn(a.h.x, him, optNaws) {
		want = b.h.m.size
	}
	if got := a.h.is.Peer(); got != want {
		t.Fatalf("the size is %v, not %v", got, want)
	}
}
