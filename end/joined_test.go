package end_test

import (
	"math/rand"
	"slices"
	"testing"

	"truchman/codes"
	"truchman/end"
	"truchman/mode"
	"truchman/naws"
	"truchman/slc"
	"truchman/subneg"
	"truchman/table"
)

// joined is two ends, the bytes that are on their way to each of them, what was
// said to each, and the data that came to it.
type joined struct {
	ends       [2]*both
	way        [2][]byte
	said, came [2][]byte
	moved      int
}

// newJoined is two ends, joined by rows that lose nothing.
func newJoined(t *testing.T, a, b end.Config) *joined {
	t.Helper()
	return &joined{ends: [2]*both{newEnd(t, a), newEnd(t, b)}}
}

// send lets all that an end has to send be on its way.
func (j *joined) send(i int) {
	j.way[1-i] = append(j.way[1-i], end.Bytes(j.ends[i].take())...)
}

// move lets the first n bytes come to an end.
func (j *joined) move(i, n int) {
	for range min(n, len(j.way[i])) {
		came, _ := j.ends[i].byte(j.way[i][0], false)
		j.came[i] = append(j.came[i], came...)
		j.way[i] = j.way[i][1:]
		j.moved++
		j.send(i)
	}
}

// rest lets all bytes come, until none are on their way.
func (j *joined) rest() {
	for len(j.way[0])+len(j.way[1]) > 0 {
		j.move(0, len(j.way[0]))
		j.move(1, len(j.way[1]))
		if j.moved > 100000 {
			j.ends[0].t.Fatal("they don't come to rest")
		}
	}
	j.ends[0].holdAll()
	j.ends[1].holdAll()
}

// ask lets an end ask, where that can be.
func (j *joined) ask(i, side, option int, on bool) {
	j.ends[i].ask(side, option, on)
	j.send(i)
}

// say lets an end say data.
func (j *joined) say(i int, b ...byte) {
	j.ends[i].say(b...)
	j.said[1-i] = append(j.said[1-i], b...)
	j.send(i)
}

// set lets an end set a mask, where that can be.
func (j *joined) set(i, n int) {
	j.ends[i].set(n)
	j.send(i)
}

// agree holds that both are calm, and have the same states, both ways; and what
// each one heard of the other one is so.
func (j *joined) agree() {
	for i, b := range j.ends {
		other := j.ends[1-i]
		b.t.Helper()
		if !b.is.Calm() {
			b.t.Fatal("it isn't calm")
		}
		for option := range 256 {
			if b.is.State(him, option) != other.is.State(us, option) {
				b.t.Fatalf("of %d they have %v and %v", option, b.is.State(him, option), other.is.State(us, option))
			}
		}
		if is := b.is.Hub().Peer(); (is == naws.Size{}) == b.is.On(him, optNaws) {
			b.t.Fatalf("the size is %v", is)
		}
		if is := b.is.Hub().Types(); b.is.On(him, optTtype) && len(is) == 0 {
			b.t.Fatal("no types were told")
		}
	}
}

// P20.1, P20.2: two joined ends that agree on Binary on one side.
func TestJoinedBinary(t *testing.T) {
	j := newJoined(t, agreeing([]int{binary}, nil), agreeing(nil, []int{binary}))
	j.ask(1, him, binary, true)
	j.say(0, 'a', 13)
	j.rest()
	j.say(0, 13, 0, 13, 'b', 255)
	j.say(1, 13, 0)
	j.rest()
	j.agree()
	for i := range j.ends {
		if !slices.Equal(j.came[i], j.said[i]) {
			t.Errorf("to %d came %v, not %v", i, j.came[i], j.said[i])
		}
	}
	if !j.ends[1].is.On(him, binary) || j.ends[1].is.On(us, binary) {
		t.Error("Binary isn't as it was asked for")
	}
}

// P20.1, P20.2: sizes and types are told, and an option is asked off again.
func TestJoinedTold(t *testing.T) {
	a, b := every(), every()
	a.Hub.Size, a.Hub.Types = naws.Size{Cols: 13, Rows: 10}, []string{"x", "y", "y", "z"}
	j := newJoined(t, a, b)
	for _, option := range []int{optNaws, optTtype, optStatus} {
		j.ask(0, him, option, true)
		j.ask(1, him, option, true)
	}
	j.rest()
	j.agree()
	if h := j.ends[0].is.Hub(); h.Peer() != b.Hub.Size || !slices.Equal(h.Types(), b.Hub.Types) {
		t.Errorf("%v, %q", h.Peer(), h.Types())
	}
	if h := j.ends[1].is.Hub(); h.Peer() != a.Hub.Size || !slices.Equal(h.Types(), []string{"x", "y"}) {
		t.Errorf("%v, %q", h.Peer(), h.Types())
	}
	j.ask(0, us, optNaws, false)
	j.ask(1, us, optNaws, false)
	j.rest()
	j.agree()
}

// P20.1, P20.2: masks of lines that are set, and characters that are asked for, one
// way alone.
func TestJoinedLines(t *testing.T) {
	r := rand.New(rand.NewSource(34))
	for range 300 {
		head, tail := agreeing(nil, []int{optLines}), agreeing([]int{optLines}, nil)
		for _, c := range []*subneg.Config{&head.Hub, &tail.Hub} {
			for range r.Intn(20) {
				c.Holds = append(c.Holds, slc.Setting{Level: r.Intn(3), Value: r.Intn(2) * r.Intn(256)})
			}
			c.Can = r.Intn(32)
		}
		j := newJoined(t, head, tail)
		for range 40 {
			switch r.Intn(6) {
			case 0:
				j.ask(0, him, optLines, r.Intn(3) > 0)
			case 1:
				j.ask(1, us, optLines, r.Intn(3) > 0)
			case 2:
				j.set(0, r.Intn(4)|r.Intn(4)<<3)
			default:
				j.move(r.Intn(2), r.Intn(9))
			}
		}
		j.rest()
		j.agree()
		j.set(0, mode.Trap)
		j.rest()
		j.holdLines()
	}
}

// holdLines holds what the head, which is at 0, and the tail have.
func (j *joined) holdLines() {
	a, b := j.ends[0].is.Hub(), j.ends[1].is.Hub()
	j.ends[0].t.Helper()
	if a.Head() != b.Tail() || a.Waits() != 0 || b.Waits() != 0 {
		j.ends[0].t.Fatalf("the masks are %d and %d, they wait for %d and %d", a.Head(), b.Tail(), a.Waits(), b.Waits())
	}
	for f := 1; f <= slc.Functions; f++ {
		if a.Char(f) != b.Char(f) {
			j.ends[0].t.Fatalf("of %d they have %v and %v", f, a.Char(f), b.Char(f))
		}
	}
}

// P20.1, P20.2: whatever is asked for, however bytes come.
func TestJoinedChance(t *testing.T) {
	r := rand.New(rand.NewSource(21))
	options := []int{binary, echo, sga, optStatus, mark, optTtype, optNaws, optLines, optNameless}
	some := func() []int {
		return slices.DeleteFunc(slices.Clone(options), func(int) bool { return r.Intn(2) == 0 })
	}
	for range 400 {
		a, b := every(), every()
		a.Policy, b.Policy = table.Policy{Us: some(), Him: some()}, table.Policy{Us: some(), Him: some()}
		j := newJoined(t, a, b)
		for range 60 {
			i := r.Intn(2)
			switch r.Intn(8) {
			case 0, 1, 2:
				j.ask(i, r.Intn(2), options[r.Intn(len(options))], r.Intn(3) > 0)
			case 3:
				j.say(i, chanceBytes(r, r.Intn(4))...)
			case 4:
				j.set(i, r.Intn(4))
			default:
				j.move(i, r.Intn(12))
			}
		}
		j.rest()
		j.agree()
	}
}

// Without Binary the data that come are what was said, whatever else goes on.
func TestJoinedSaid(t *testing.T) {
	r := rand.New(rand.NewSource(22))
	options := []int{codes.Echo, codes.Status, codes.Mark, codes.Ttype, codes.Naws, codes.Linemode}
	for range 200 {
		a, b := every(), every()
		a.Policy, b.Policy = table.Policy{Us: options, Him: options}, table.Policy{Us: options, Him: options}
		j := newJoined(t, a, b)
		for range 60 {
			i := r.Intn(2)
			switch r.Intn(4) {
			case 0:
				j.ask(i, r.Intn(2), options[r.Intn(len(options))], r.Intn(3) > 0)
			case 1, 2:
				j.say(i, chanceBytes(r, r.Intn(6))...)
			default:
				j.move(i, r.Intn(12))
			}
		}
		j.rest()
		j.agree()
		for i := range j.ends {
			if string(j.came[i]) != string(j.said[i]) {
				t.Fatalf("to %d came %q, not %q", i, j.came[i], j.said[i])
			}
		}
	}
}
