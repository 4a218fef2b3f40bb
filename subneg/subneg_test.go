package subneg_test

import (
	"bytes"
	"errors"
	"math"
	"slices"
	"strings"
	"testing"

	"truchman/api"
	"truchman/iac"
	"truchman/naws"
	"truchman/slc"
	"truchman/status"
	"truchman/subneg"
	"truchman/table"
)

// plain is a Config of one type that holds nothing, and can nothing.
func plain() subneg.Config {
	return subneg.Config{Size: naws.Size{Cols: 80, Rows: 24}, Types: []string{"vt100"}}
}

// full is a Config that holds settings of each kind, also such as are none.
func full() subneg.Config {
	return subneg.Config{
		Size:  naws.Size{Cols: 0x1234, Rows: 0xff01},
		Types: []string{"vt100", "ansi", "xterm"},
		Holds: []slc.Setting{
			{Level: value, Value: 3},
			{Level: cant, Value: 4},
			{Level: none},
			{Level: value, Value: 0},
			{Level: deflt},
			{Level: value, Value: 256},
			{Level: value, Value: 255},
			{Level: cant, Value: 0},
			{Level: none, Value: 1},
			{Level: 4, Value: 1},
			{Level: -1},
			{Level: deflt, Value: 7},
			{Level: value, Value: -1},
			{Level: value, Value: 13},
		},
		Can: edit | soft,
	}
}

// asksOfFull is what our side asks for where it is made of full.
var asksOfFull = []byte{3, 1, 2, 3, 2, 1, 4, 4, 2, 0, 7, 2, 255, 8, 1, 0, 14, 2, 13}

// settings is so many settings of the same kind, with values that rise.
func settings(n, level int) []slc.Setting {
	list := make([]slc.Setting, n)
	for i := range list {
		list[i] = slc.Setting{Level: level, Value: 1 + i}
	}
	return list
}

// names is so many types of which no two are the same.
func names(n int) []string {
	list := make([]string, n)
	for i := range list {
		list[i] = "type-" + string(rune('a'+i))
	}
	return list
}

// busy is hubs to which something has happened, by words; each call makes them
// anew.
func busy(t *testing.T) map[string]*hub {
	t.Helper()
	return map[string]*hub{
		"new":     newHub(t, full(), tableAt(t, atBoth, options...)),
		"heard":   heardHub(t),
		"waiting": waitingHub(t),
		"whole":   wholeHub(t),
	}
}

// heardHub is a hub that has heard something of each option.
func heardHub(t *testing.T) *hub {
	t.Helper()
	h := newHub(t, full(), tableAt(t, atBoth, options...))
	h.hear(optNaws, 0, 100, 0, 50)
	h.hear(optTtype, 1)
	h.hear(optTtype, typeBody("one")...)
	h.hear(optTtype, typeBody("two")...)
	h.hear(optStatus, 0, will, 1, do, 3)
	h.hear(optLines, 1, edit|trap|soft)
	h.hear(optLines, 3, 1, value, 9, 2, value, 9, 4, cant, 8, 5, none, 0, 7, deflt, 0)
	h.hear(optLines, do, 2, 64, 4)
	return h
}

// waitingHub is a hub whose side and head wait for answers.
func waitingHub(t *testing.T) *hub {
	t.Helper()
	h := newHub(t, full(), tableAt(t, atHim, options...))
	h.turn(us, optLines, true)
	h.mustSet(edit | lit)
	h.hear(optLines, 3, 2, cant|128, 4)
	return h
}

// wholeHub is a hub with a list that is whole, and a head that was answered.
func wholeHub(t *testing.T) *hub {
	t.Helper()
	h := newHub(t, plain(), tableAt(t, atHim, options...))
	h.hear(optTtype, typeBody("one")...)
	h.hear(optTtype, typeBody("one")...)
	h.mustSet(edit | soft)
	h.hear(optLines, 1, edit|ack)
	h.hear(optNaws, 255, 255, 0, 0)
	return h
}

// probe asks a hub all that could tell what it keeps.
func (h *hub) probe() {
	h.t.Helper()
	h.x = tableAt(h.t, atHim, options...)
	h.hear(optLines, 1, trap|ack)
	h.set(soft)
	h.set(lit)
	h.x = tableAt(h.t, atBoth, options...)
	for range 2*len(h.m.cycle) + 1 {
		h.hear(optTtype, 1)
	}
	for _, name := range []string{"probe", "one", "two", "two", "three"} {
		h.hear(optTtype, typeBody(name)...)
	}
	for f := range byte(functions + 1) {
		h.hear(optLines, 3, f, deflt, 0)
		h.hear(optLines, 3, f, value, 200, f, cant, 201)
	}
	h.hear(optLines, 1, edit|trap|soft|lit)
	h.hear(optStatus, 1)
	for _, on := range []bool{true, false, true} {
		for _, option := range []int{optNaws, optTtype, optStatus, optLines} {
			h.turn(us, option, on)
			h.turn(him, option, on)
		}
	}
	h.turn(us, optLines, true)
}

// far is numbers that are far below, or beyond, what is ever meant; among them
// such whose last bits are those of what is.
func far() []int {
	return []int{
		math.MinInt, math.MinInt + 1, math.MinInt + 34, -1<<32 + 24, -1 << 32, math.MinInt32, -1<<16 + 5, -256 + 31, -2, -1,
		256 + 31, 512 + 34, 1<<16 + 24, math.MaxInt32, 1 << 31, 1 << 32, 1<<32 + 1, 1<<32 + 5, 1<<32 + 34, 1 << 62, math.MaxInt - 1, math.MaxInt,
	}
}

func TestExample(t *testing.T) {
	h := newHub(t, plain(), nil)
	h.mustTurn(one(optNaws, 0, 80, 0, 24), us, optNaws, true)
}

// P18.1: a size that is none, and types of which no cycle is made.
func TestNewErrors(t *testing.T) {
	right, good := naws.Size{Cols: 80, Rows: 24}, []string{"vt100"}
	for _, row := range []struct {
		size  naws.Size
		types []string
		want  error
	}{
		{naws.Size{Cols: -1, Rows: 24}, good, api.ErrRange},
		{naws.Size{Cols: 80, Rows: -1}, good, api.ErrRange},
		{naws.Size{Cols: 65536, Rows: 24}, good, api.ErrRange},
		{naws.Size{Cols: 80, Rows: 65536}, good, api.ErrRange},
		{naws.Size{Cols: math.MinInt, Rows: math.MaxInt}, good, api.ErrRange},
		{naws.Size{Cols: 1<<32 + 80, Rows: 24}, good, api.ErrRange},
		{right, nil, api.ErrRange},
		{right, []string{}, api.ErrRange},
		{right, names(9), api.ErrRange},
		{right, names(26), api.ErrRange},
		{right, []string{""}, api.ErrName},
		{right, []string{"vt 100"}, api.ErrName},
		{right, []string{"vt100", "a\x7f"}, api.ErrName},
		{right, []string{"vt100", "\u017eluva"}, api.ErrName},
		{right, append(names(7), ""), api.ErrName},
		{right, []string{strings.Repeat("x", 25)}, api.ErrName},
		{right, append(names(8), ""), api.ErrRange},
		{right, make([]string, 9), api.ErrRange},
		{naws.Size{Cols: -1}, []string{""}, api.ErrRange},
		{naws.Size{Cols: 65536}, []string{"vt 100"}, api.ErrRange},
		{naws.Size{Rows: -1}, nil, api.ErrRange},
	} {
		for _, holds := range [][]slc.Setting{nil, settings(18, value), settings(40, 9)} {
			h, err := subneg.New(subneg.Config{Size: row.size, Types: row.types, Holds: holds, Can: edit})
			if h != nil || !errors.Is(err, row.want) {
				t.Errorf("New of %v, %q: %v, %v, not %v", row.size, row.types, h, err, row.want)
			}
		}
	}
}

// P18.1: at the edges of what may be, and whatever is held, and can be done, a
// hub is made; each new one has heard nothing, and is of its Config.
func TestNew(t *testing.T) {
	for _, size := range []naws.Size{{}, {Cols: 65535}, {Rows: 65535}, {Cols: 65535, Rows: 65535}, {Cols: 255, Rows: 256}} {
		c := full()
		c.Size = size
		h := newHub(t, c, tableAt(t, atBoth, options...))
		h.mustTurn(one(optNaws, byte(size.Cols>>8), byte(size.Cols), byte(size.Rows>>8), byte(size.Rows)), us, optNaws, true)
	}
	for n := 1; n <= 8; n++ {
		c := full()
		c.Types = names(n)
		newHub(t, c, nil).probe()
	}
	for _, types := range [][]string{{"!"}, {"~"}, {strings.Repeat("x", 24)}, {"a", "a"}, {"a", "a", "b", "b", "a"}} {
		c := plain()
		c.Types = types
		newHub(t, c, nil).probe()
	}
	for n := range 22 {
		for level := -1; level <= 5; level++ {
			c := plain()
			c.Holds = settings(n, level)
			newHub(t, c, nil).probe()
		}
	}
	for _, can := range append(far(), 0, 1, 2, 3, 4, 5, 8, 16, 27, 31, 32, 64, 255) {
		c := plain()
		c.Can = can
		newHub(t, c, nil).probe()
	}
}

// P18.1: what a new hub answers to each call that only asks.
func TestNewHub(t *testing.T) {
	for _, c := range []subneg.Config{plain(), full()} {
		h, err := subneg.New(c)
		if err != nil {
			t.Fatal(err)
		}
		if h.Peer() != (naws.Size{}) || len(h.Types()) != 0 || len(h.Report()) != 0 {
			t.Errorf("something was heard: %v, %q, %v", h.Peer(), h.Types(), h.Report())
		}
		if h.Head() != 0 || h.Tail() != 0 || h.Waits() != 0 {
			t.Errorf("masks %d, %d, waits %d", h.Head(), h.Tail(), h.Waits())
		}
		if m, is := h.Mask(); is || m != rowOf(nil) {
			t.Errorf("a mask is set: %v, %v", m, is)
		}
		for f := -3; f < 30; f++ {
			if h.Char(f) != (slc.Setting{Level: none}) {
				t.Errorf("function %d: %v", f, h.Char(f))
			}
		}
	}
}

// P18.1: without a table nothing is heard, and nothing is set.
func TestNilTable(t *testing.T) {
	for _, k := range []iac.Token{
		{},
		{Kind: sub},
		{Kind: sub, Option: optNaws, Body: []byte{0, 80, 0, 24}},
		{Kind: sub, Option: optNaws, Cut: true},
		{Kind: sub, Option: 1},
		{Kind: 3, Code: do, Option: 1, Cut: true},
	} {
		for _, h := range busy(t) {
			h.x = nil
			if got, err := h.token(k); len(got) != 0 || !errors.Is(err, api.ErrNone) {
				t.Errorf("Hear of %v: %v, %v", k, got, err)
			}
			h.probe()
		}
	}
	for _, n := range []int{0, edit, edit | ack, -1, math.MaxInt} {
		for _, h := range busy(t) {
			h.x = nil
			h.mustNotSet(api.ErrNone, n)
			h.probe()
		}
	}
}

// P18.1: what is no Sub isn't heard, whatever else it has.
func TestNoSub(t *testing.T) {
	for _, kind := range append(far(), 0, 1, 2, 3, 5, 6, 7, 8, 250, 255) {
		if kind == sub {
			continue
		}
		for _, cut := range []bool{false, true} {
			for _, option := range []int{optNaws, optTtype, optStatus, optLines, 1, -1} {
				h := heardHub(t)
				k := iac.Token{Kind: kind, Code: 1, Option: option, Body: []byte{1}, Cut: cut}
				if got, err := h.token(k); len(got) != 0 || !errors.Is(err, api.ErrKind) {
					t.Errorf("Hear of %v: %v, %v", k, got, err)
				}
			}
		}
	}
}

// P18.1: what is cut isn't heard, also where it is of another option.
func TestCut(t *testing.T) {
	for _, option := range append(far(), every()...) {
		h := heardHub(t)
		for _, b := range [][]byte{nil, {1}, {0, 80, 0, 24}, make([]byte, 256)} {
			k := iac.Token{Kind: sub, Option: option, Body: b, Cut: true}
			if got, err := h.token(k); len(got) != 0 || !errors.Is(err, api.ErrLong) {
				t.Errorf("Hear of %v: %v, %v", k, got, err)
			}
		}
	}
}

// P18.1: of another option nothing is heard, wherever it is on.
func TestOtherOption(t *testing.T) {
	for _, where := range places {
		x := tableAt(t, where, every()...)
		for _, option := range append(far(), without(every(), options)...) {
			h := heardHub(t)
			h.x = x
			for _, b := range [][]byte{nil, {1}, {0, 80, 0, 24}, {3, 1, 2, 3}, {do, 2}} {
				h.mustFail(api.ErrName, option, b...)
			}
		}
	}
}

// P18.1: a body of Naws is the other side's size; nothing is told.
func TestNaws(t *testing.T) {
	for _, where := range places {
		h := newHub(t, plain(), tableAt(t, where, optNaws))
		for _, row := range []struct {
			body []byte
			size naws.Size
		}{
			{[]byte{0, 80, 0, 24}, naws.Size{Cols: 80, Rows: 24}},
			{[]byte{0, 0, 0, 0}, naws.Size{}},
			{[]byte{255, 255, 255, 255}, naws.Size{Cols: 65535, Rows: 65535}},
			{[]byte{1, 2, 3, 4}, naws.Size{Cols: 258, Rows: 772}},
			{[]byte{255, 0, 0, 255}, naws.Size{Cols: 65280, Rows: 255}},
		} {
			if where&atHim == 0 {
				h.mustFail(api.ErrState, optNaws, row.body...)
				continue
			}
			h.mustTell(nil, optNaws, row.body...)
			if got := h.is.Peer(); got != row.size {
				t.Errorf("the size is %v, not %v", got, row.size)
			}
		}
		h.probe()
	}
}

// P18.1, P18.2: what is no size is an error wherever the option is on.
func TestNawsErrors(t *testing.T) {
	for _, where := range places {
		for _, h := range busy(t) {
			h.x = tableAt(t, where, options...)
			for n := range 260 {
				switch {
				case n < 4:
					h.mustFail(api.ErrShort, optNaws, make([]byte, n)...)
				case n > 4:
					h.mustFail(api.ErrLong, optNaws, make([]byte, n)...)
				}
			}
			h.probe()
		}
	}
}

// P18.1: who asks is told the types in the cycle's order, again and again.
func TestTtypeAsked(t *testing.T) {
	for _, where := range []int{atUs, atBoth} {
		c := plain()
		c.Types = []string{"vt100", "ansi"}
		h := newHub(t, c, tableAt(t, where, optTtype))
		for _, name := range []string{"vt100", "ansi", "ansi", "vt100", "ansi", "ansi", "vt100", "ansi"} {
			h.mustTell(one(optTtype, typeBody(name)...), optTtype, 1)
		}
		for n := 1; n <= 8; n++ {
			c.Types = names(n)
			h := newHub(t, c, tableAt(t, where, optTtype))
			for range 3 {
				for _, name := range append(names(n), names(n)[n-1]) {
					h.mustTell(one(optTtype, typeBody(name)...), optTtype, 1)
				}
			}
		}
	}
}

// P18.1, P18.2: who asks where it isn't on at Us is told nothing, and the cycle
// stays where it was.
func TestTtypeAskedOff(t *testing.T) {
	for _, where := range []int{atNeither, atHim} {
		off, on := tableAt(t, where, optTtype), tableAt(t, atUs, optTtype)
		h := newHub(t, full(), off)
		for _, name := range []string{"vt100", "ansi", "xterm", "xterm", "vt100"} {
			h.x = off
			h.mustFail(api.ErrState, optTtype, 1)
			h.x = on
			h.mustTell(one(optTtype, typeBody(name)...), optTtype, 1)
		}
		h.probe()
	}
}

// P18.1: each type is taken, and the next one asked for, till one is told twice.
func TestTtypeTold(t *testing.T) {
	for _, where := range []int{atHim, atBoth} {
		for n := 1; n <= 7; n++ {
			h := newHub(t, plain(), tableAt(t, where, optTtype))
			for i, name := range names(n) {
				h.mustTell(one(optTtype, 1), optTtype, typeBody(name)...)
				mustHaveTypes(t, h, names(i+1))
			}
			for range 3 {
				h.mustTell(nil, optTtype, typeBody(names(n)[n-1])...)
				mustHaveTypes(t, h, names(n))
			}
			h.mustTell(nil, optTtype, typeBody("other")...)
			mustHaveTypes(t, h, names(n))
			h.probe()
		}
	}
}

// P18.1: with the eighth type the list is whole.
func TestTtypeToldEight(t *testing.T) {
	h := newHub(t, plain(), tableAt(t, atHim, optTtype))
	for _, name := range names(7) {
		h.mustTell(one(optTtype, 1), optTtype, typeBody(name)...)
	}
	for _, name := range []string{"type-h", "type-h", "type-i", "type-a"} {
		h.mustTell(nil, optTtype, typeBody(name)...)
		mustHaveTypes(t, h, names(8))
	}
}

// P18.1: types that are the same, but for others between, are both taken.
func TestTtypeToldAgain(t *testing.T) {
	h := newHub(t, plain(), tableAt(t, atHim, optTtype))
	for _, name := range []string{"a", "b", "a", "A"} {
		h.mustTell(one(optTtype, 1), optTtype, typeBody(name)...)
	}
	h.mustTell(nil, optTtype, typeBody("A")...)
	mustHaveTypes(t, h, []string{"a", "b", "a", "A"})
}

// P18.1, P18.2: a type that is told where it isn't on at Him isn't taken.
func TestTtypeToldOff(t *testing.T) {
	for _, where := range []int{atNeither, atUs} {
		for _, h := range busy(t) {
			h.x = tableAt(t, where, optTtype)
			for _, name := range []string{"one", "two", "two", "three"} {
				h.mustFail(api.ErrState, optTtype, typeBody(name)...)
			}
			h.probe()
		}
	}
}

// P18.1, P18.2: what is no body of Ttype is an error wherever it is on.
func TestTtypeErrors(t *testing.T) {
	for _, where := range places {
		for _, h := range busy(t) {
			h.x = tableAt(t, where, options...)
			h.mustFail(api.ErrShort, optTtype)
			h.mustFail(api.ErrLong, optTtype, 1, 1)
			h.mustFail(api.ErrLong, optTtype, make1(1, 256)...)
			h.mustFail(api.ErrName, optTtype, 0)
			h.mustFail(api.ErrName, optTtype, 0, 'a', ' ')
			h.mustFail(api.ErrName, optTtype, 0, 'a', 127)
			h.mustFail(api.ErrName, optTtype, 0, 'a', 200)
			h.mustFail(api.ErrName, optTtype, typeBody(strings.Repeat("x", 25))...)
			h.mustFail(api.ErrName, optTtype, typeBody(strings.Repeat("x", 255))...)
			for first := 2; first < 256; first++ {
				h.mustFail(api.ErrForm, optTtype, byte(first))
				h.mustFail(api.ErrForm, optTtype, byte(first), 'a')
			}
			h.probe()
		}
	}
}

// make1 is so many bytes that begin with one.
func make1(first byte, n int) []byte {
	list := make([]byte, n)
	list[0] = first
	return list
}

// mustHaveTypes holds the types that a hub has gathered.
func mustHaveTypes(t *testing.T, h *hub, want []string) {
	t.Helper()
	if got := h.is.Types(); !slices.Equal(got, want) {
		t.Fatalf("the types are %q, not %q", got, want)
	}
}

// P18.1: who asks is told the table's report.
func TestStatusAsked(t *testing.T) {
	for _, row := range []struct {
		ours, his []int
		want      []byte
	}{
		{[]int{5}, nil, []byte{0, will, 5}},
		{[]int{5, 1}, []int{3}, []byte{0, will, 1, will, 5, do, 3}},
		{[]int{255, 5, 0}, []int{255, 5, 0}, []byte{0, will, 0, will, 5, will, 255, do, 0, do, 5, do, 255}},
	} {
		h := newHub(t, full(), tableOf(t, row.ours, row.his))
		for range 3 {
			h.mustTell(one(optStatus, row.want...), optStatus, 1)
		}
		h.probe()
	}
}

// P18.1: the report is of the table as it is when somebody asks.
func TestStatusOfTable(t *testing.T) {
	h := newHub(t, plain(), tableOf(t, []int{5}, nil))
	h.mustTell(one(optStatus, 0, will, 5), optStatus, 1)
	h.x = tableOf(t, []int{5, 31}, []int{1})
	h.mustTell(one(optStatus, 0, will, 5, will, 31, do, 1), optStatus, 1)
	if _, err := h.x.Ask(table.Us, 31, false); err != nil {
		t.Fatal(err)
	}
	h.mustTell(one(optStatus, 0, will, 5, do, 1), optStatus, 1)
}

// P18.1: a table that has more than 120 options on has a report that can't be
// told: an error, which comes behind that of Status that isn't on at Us.
func TestStatusOfTooMuch(t *testing.T) {
	for _, h := range busy(t) {
		h.x = tableOf(t, every()[:100], every()[:20])
		got, _ := h.hear(optStatus, 1)
		if len(got) != 1 || len(got[0].Body) != 241 {
			t.Fatalf("120 options are told by %v", got)
		}
		for _, row := range []struct {
			ours, his []int
			want      error
		}{
			{every()[:100], every()[:21], api.ErrLong},
			{every()[:121], nil, api.ErrLong},
			{every(), every(), api.ErrLong},
			{[]int{5}, every()[:120], api.ErrLong},
			{without(every(), []int{5}), every(), api.ErrState},
			{nil, every(), api.ErrState},
		} {
			h.x = tableOf(t, row.ours, row.his)
			h.mustFail(row.want, optStatus, 1)
		}
		h.probe()
	}
}

// P18.1: the last report is what was told last; the one before it is gone.
func TestStatusTold(t *testing.T) {
	for _, where := range []int{atHim, atBoth} {
		h := newHub(t, plain(), tableAt(t, where, optStatus))
		for _, row := range []struct {
			body []byte
			want []status.Entry
		}{
			{[]byte{0}, nil},
			{[]byte{0, will, 1, do, 3}, []status.Entry{{Verb: will, Option: 1}, {Verb: do, Option: 3}}},
			{[]byte{0, wont, 255}, []status.Entry{{Verb: wont, Option: 255}}},
			{[]byte{0, dont, 0, dont, 0}, []status.Entry{{Verb: dont}, {Verb: dont}}},
			{[]byte{0}, nil},
		} {
			h.mustTell(nil, optStatus, row.body...)
			if got := h.is.Report(); !slices.Equal(got, row.want) {
				t.Errorf("the report is %v, not %v", got, row.want)
			}
		}
		long := append([]byte{0}, bytes.Repeat([]byte{do, 7}, 127)...)
		h.mustTell(nil, optStatus, long...)
		if got := h.is.Report(); len(got) != 127 {
			t.Errorf("the report has %d entries", len(got))
		}
	}
}

// P18.1, P18.2: where Status isn't on at the side of which a body speaks, and
// what is no body of it.
func TestStatusErrors(t *testing.T) {
	for _, where := range places {
		for _, h := range busy(t) {
			h.x = tableAt(t, where, options...)
			if where&atUs == 0 {
				h.mustFail(api.ErrState, optStatus, 1)
			}
			if where&atHim == 0 {
				h.mustFail(api.ErrState, optStatus, 0)
				h.mustFail(api.ErrState, optStatus, 0, will, 1)
			}
			h.mustFail(api.ErrShort, optStatus)
			h.mustFail(api.ErrLong, optStatus, 1, 0)
			h.mustFail(api.ErrLong, optStatus, 1, will, 1)
			h.mustFail(api.ErrShort, optStatus, 0, will)
			h.mustFail(api.ErrShort, optStatus, 0, 7)
			h.mustFail(api.ErrShort, optStatus, 0, will, 1, do)
			h.mustFail(api.ErrKind, optStatus, 0, 250, 1)
			h.mustFail(api.ErrKind, optStatus, 0, will, 1, 255, 1)
			for first := 2; first < 256; first++ {
				h.mustFail(api.ErrForm, optStatus, byte(first))
				h.mustFail(api.ErrForm, optStatus, byte(first), will, 1)
			}
			h.probe()
		}
	}
}

// P18.1: a state of the table that is but wanted isn't on: Naws, Ttype and
// Status that are asked on, or off, aren't heard.
func TestWanted(t *testing.T) {
	heard := map[int][]byte{us: nil, him: nil}
	for _, on := range []bool{true, false} {
		for side := range heard {
			h := newHub(t, full(), wanted(t, side, on))
			if side == us {
				h.mustFail(api.ErrState, optTtype, 1)
				h.mustFail(api.ErrState, optStatus, 1)
				h.mustFail(api.ErrState, optLines, do, 2)
				h.mustFail(api.ErrState, optLines, dont, 2)
			} else {
				h.mustFail(api.ErrState, optNaws, 0, 80, 0, 24)
				h.mustFail(api.ErrState, optTtype, 0, 'a')
				h.mustFail(api.ErrState, optStatus, 0)
				h.mustFail(api.ErrState, optLines, will, 2)
				h.mustFail(api.ErrState, optLines, wont, 2)
				h.mustNotSet(api.ErrState, edit)
			}
			h.mustFail(api.ErrState, optLines, 1, edit)
			h.mustFail(api.ErrState, optLines, 3, 1, value, 3)
			h.probe()
		}
	}
}

// wanted is a table on which the four options are asked on, or off, at a side,
// and were the opposite ahead of that.
func wanted(t *testing.T, side int, on bool) *table.Table {
	t.Helper()
	x := tableAt(t, atNeither)
	if !on {
		x = tableAt(t, 1+side, options...)
	}
	for _, option := range options {
		if _, err := x.Ask(side, option, on); err != nil {
			t.Fatal(err)
		}
	}
	return x
}

// P18.1, P18.2: of Linemode no bytes are too few, wherever it is on.
func TestLinesShort(t *testing.T) {
	for _, where := range places {
		for _, h := range busy(t) {
			h.x = tableAt(t, where, options...)
			h.mustFail(api.ErrShort, optLines)
			h.probe()
		}
	}
}

// P18.1, P18.2: each first byte that is neither 1, 3, nor a verb, wherever
// Linemode is on.
func TestLinesKind(t *testing.T) {
	for _, where := range places {
		for _, h := range busy(t) {
			h.x = tableAt(t, where, options...)
			for first := range 256 {
				if first == 1 || first == 3 || isVerb(first) {
					continue
				}
				h.mustFail(api.ErrKind, optLines, byte(first))
				h.mustFail(api.ErrKind, optLines, byte(first), 2)
				h.mustFail(api.ErrKind, optLines, byte(first), 1, 2, 3)
			}
			h.probe()
		}
	}
}

// P18.1: where Linemode is on at Us, a mask is heard by the tail, which answers
// what it can do of it; the head hears nothing, also where it is on at both.
func TestLinesTail(t *testing.T) {
	for _, where := range []int{atUs, atBoth} {
		h := newHub(t, full(), tableAt(t, where, optLines))
		for _, row := range []struct{ mask, has byte }{
			{edit, edit}, {trap, 0}, {edit | trap, edit}, {soft | lit, soft}, {edit | trap | soft | lit, edit | soft}, {0, 0}, {edit, edit}, {edit, edit},
		} {
			h.mustTell(one(optLines, 1, row.has|ack), optLines, 1, row.mask)
			if h.is.Tail() != int(row.has) || h.is.Head() != 0 {
				t.Errorf("behind the mask %d the tail has %d, the head %d", row.mask, h.is.Tail(), h.is.Head())
			}
		}
		h.probe()
	}
}

// P18.1, P18.2: what the tail doesn't hear is its error; an answer, too, also
// where the head waits for it.
func TestLinesTailErrors(t *testing.T) {
	for _, where := range []int{atUs, atBoth} {
		for _, h := range busy(t) {
			h.x = tableAt(t, where, options...)
			h.mustFail(api.ErrShort, optLines, 1)
			h.mustFail(api.ErrLong, optLines, 1, edit, 0)
			h.mustFail(api.ErrLong, optLines, make1(1, 256)...)
			for n := range 256 {
				switch {
				case n&^(edit|trap|soft|lit|ack) != 0:
					h.mustFail(api.ErrForm, optLines, 1, byte(n))
				case n&ack != 0:
					h.mustFail(api.ErrState, optLines, 1, byte(n))
				}
			}
			h.probe()
		}
	}
}

// P18.1: where Linemode is on at Him alone, the head hears the answer to what it
// set.
func TestLinesHead(t *testing.T) {
	h := newHub(t, full(), tableAt(t, atHim, optLines))
	for _, row := range []struct{ set, answer byte }{
		{edit | soft, edit}, {lit, lit}, {trap, 0}, {edit | trap, edit | trap | soft | lit}, {edit, trap},
	} {
		h.mustSet(int(row.set))
		if h.is.Head() != int(row.set) || h.is.Waits() != 1 {
			t.Errorf("the head has %d, waits %d", h.is.Head(), h.is.Waits())
		}
		h.mustTell(nil, optLines, 1, row.answer|ack)
		if h.is.Head() != int(row.answer) || h.is.Waits() != 0 || h.is.Tail() != 0 {
			t.Errorf("the head has %d, waits %d; the tail has %d", h.is.Head(), h.is.Waits(), h.is.Tail())
		}
	}
	h.probe()
}

// P18.1, P18.2: what the head doesn't hear is its error: an answer for which it
// doesn't wait, and a mask that isn't one.
func TestLinesHeadErrors(t *testing.T) {
	for _, waits := range []bool{false, true} {
		h := newHub(t, full(), tableAt(t, atHim, optLines))
		if waits {
			h.mustSet(edit)
		}
		h.mustFail(api.ErrShort, optLines, 1)
		h.mustFail(api.ErrLong, optLines, 1, edit|ack, 0)
		for n := range 256 {
			switch {
			case n&^(edit|trap|soft|lit|ack) != 0:
				h.mustFail(api.ErrForm, optLines, 1, byte(n))
			case !waits || n&ack == 0:
				h.mustFail(api.ErrState, optLines, 1, byte(n))
			}
		}
		h.probe()
	}
}

// P18.1, P18.2: where Linemode is on at neither, no mask is heard: that is told
// ahead of what is wrong in the body.
func TestLinesModeOff(t *testing.T) {
	for _, h := range busy(t) {
		h.x = tableBut(t, atNeither, optLines)
		h.mustFail(api.ErrState, optLines, 1)
		h.mustFail(api.ErrState, optLines, 1, 0, 0)
		for n := range 256 {
			h.mustFail(api.ErrState, optLines, 1, byte(n))
		}
		h.probe()
	}
}

// P18.1: where Linemode is on at one side, or at both, our side hears triples,
// and what it tells on them is told behind a byte 3.
func TestLinesCharacters(t *testing.T) {
	for _, where := range []int{atUs, atHim, atBoth} {
		h := newHub(t, full(), tableAt(t, where, optLines))
		h.mustTell(one(optLines, 3, 1, value|128, 9), optLines, 3, 1, value, 9)
		h.mustTell(nil, optLines, 3, 1, value, 9)
		h.mustTell(nil, optLines, 3, 1, value|128, 10)
		h.mustTell(one(optLines, 3, 2, cant, 4), optLines, 3, 2, value, 9)
		h.mustTell(one(optLines, 3, 2, none, 0), optLines, 3, 2, cant, 9)
		h.mustTell(one(optLines, 3, 1, cant|128, 5), optLines, 3, 1, cant, 5)
		h.mustTell(one(optLines, 3, 1, none|128, 0), optLines, 3, 1, none, 0)
		h.mustTell(one(optLines, 3, 1, value, 3, 4, value, 0), optLines, 3, 1, deflt, 0, 3, none, 0, 4, deflt, 0)
		h.mustTell(one(optLines, 3, 1, value|128, 8, 1, value, 3), optLines, 3, 1, value, 8, 1, deflt, 0)
		for f, want := range map[int]slc.Setting{1: {Level: value, Value: 3}, 2: {}, 3: {}, 4: {Level: value}, 14: {}} {
			if got := h.is.Char(f); got != want {
				t.Errorf("of %d it has %v, not %v", f, got, want)
			}
		}
		h.probe()
	}
}

// P18.1: triples that draw no answers, and no triples at all.
func TestLinesCharactersNothing(t *testing.T) {
	for _, where := range []int{atUs, atHim, atBoth} {
		h := newHub(t, full(), tableAt(t, where, optLines))
		h.mustTell(nil, optLines, 3)
		h.mustTell(nil, optLines, 3, 0, value, 3)
		h.mustTell(nil, optLines, 3, 19, value, 3, 255, value, 3)
		h.mustTell(nil, optLines, 3, 1, none, 7)
		h.mustTell(nil, optLines, 3, 1, deflt, 1)
		h.mustTell(nil, optLines, 3, 1, none, 0)
		h.mustTell(nil, optLines, 3, 1, value|128, 9, 2, cant|128, 4)
		h.mustTell(one(optLines, 3, 1, value|128, 7), optLines, 3, 0, value, 3, 1, value, 7, 19, value, 3)
		h.mustTell(one(optLines, 3, 1, value|128, 6), optLines, 3, 1, value|64|32|16|8|4, 6)
		h.probe()
	}
}

// P18.1: a body has room for 85 triples, and each of them may draw an answer.
func TestLinesCharactersMany(t *testing.T) {
	c := full()
	c.Holds = settings(18, value)
	h := newHub(t, c, tableAt(t, atUs, optLines))
	body, want := []byte{3}, []byte{3}
	for i := range 85 {
		f, v := byte(1+i%18), byte(100+i)
		body = append(body, f, value, v)
		want = append(want, f, value|128, v)
	}
	h.mustTell(one(optLines, want...), optLines, body...)
	h.mustTell(one(optLines, want...), optLines, body...)
	h.probe()
}

// P18.2: a body that is longer than any stream's may be heard, or not: if not,
// it changes nothing.
func TestLinesCharactersTooMany(t *testing.T) {
	c := full()
	c.Holds = settings(18, value)
	h := newHub(t, c, tableAt(t, atUs, optLines))
	body := []byte{3}
	for i := range 200 {
		body = append(body, byte(1+i%18), value, byte(i))
	}
	got, err := h.is.Hear(h.x, iac.Token{Kind: sub, Option: optLines, Body: body})
	if err != nil && len(got) != 0 {
		t.Errorf("beside %v it tells %v", err, got)
	}
	if err != nil {
		h.same()
		h.probe()
	}
}

// P18.1, P18.2: triples where Linemode is on at neither, which is told ahead of
// what is wrong in them, and such of which a byte is missing.
func TestLinesCharactersErrors(t *testing.T) {
	for _, where := range places {
		for _, h := range busy(t) {
			h.x = tableBut(t, where, optLines)
			want := api.ErrShort
			if where == atNeither {
				want = api.ErrState
				h.mustFail(want, optLines, 3)
				h.mustFail(want, optLines, 3, 1, value, 99)
				h.mustFail(want, optLines, 3, 1, value|128, 99)
				h.mustFail(want, optLines, 3, 99, 99, 99)
			}
			h.mustFail(want, optLines, 3, 1)
			h.mustFail(want, optLines, 3, 1, value)
			h.mustFail(want, optLines, 3, 1, value, 99, 2)
			h.mustFail(want, optLines, 3, 1, value, 99, 2, value)
			h.mustFail(want, optLines, make1(3, 255)...)
			h.probe()
		}
	}
}

// P18.1: DO sets the mask, and is answered by WILL; DONT sets none, and is
// answered by WONT.
func TestLinesMask(t *testing.T) {
	for _, where := range []int{atUs, atBoth} {
		h := newHub(t, full(), tableAt(t, where, optLines))
		for _, row := range []struct {
			body []byte
			in   []byte
		}{
			{[]byte{do, 2, 64}, []byte{1}},
			{[]byte{do, 2}, nil},
			{[]byte{do, 2, 0, 4}, []byte{13}},
			{[]byte{do, 2, 128, 0, 0}, []byte{0}},
			{append(append([]byte{do, 2}, make([]byte, 31)...), 1), []byte{255}},
			{append([]byte{do, 2}, make([]byte, 32)...), nil},
		} {
			h.mustTell(one(optLines, will, 2), optLines, row.body...)
			if m, is := h.is.Mask(); !is || m != rowOf(row.in) {
				t.Errorf("behind % x the mask is %v, %v", row.body, m, is)
			}
			h.mustTell(one(optLines, wont, 2), optLines, dont, 2)
			if m, is := h.is.Mask(); is || m != rowOf(nil) {
				t.Errorf("behind DONT the mask is %v, %v", m, is)
			}
			h.mustTell(one(optLines, wont, 2), optLines, dont, 2)
			h.mustTell(one(optLines, will, 2), optLines, row.body...)
		}
		h.probe()
	}
}

// P18.1: WILL and WONT tell nothing, and turn nothing.
func TestLinesMaskAnswers(t *testing.T) {
	for _, where := range []int{atHim, atBoth} {
		for _, h := range busy(t) {
			h.x = tableAt(t, where, optLines)
			was, had := h.is.Mask()
			h.mustTell(nil, optLines, will, 2)
			h.mustTell(nil, optLines, wont, 2)
			if m, is := h.is.Mask(); m != was || is != had {
				t.Errorf("the mask is %v, %v", m, is)
			}
			h.probe()
		}
	}
}

// P18.1, P18.2: verbs where Linemode isn't on at the side of which they speak;
// what is wrong in the body is told ahead of that.
func TestLinesMaskErrors(t *testing.T) {
	for _, where := range places {
		for _, h := range busy(t) {
			h.x = tableBut(t, where, optLines)
			for _, verb := range []byte{will, wont, do, dont} {
				h.mustFail(api.ErrShort, optLines, verb)
				h.mustFail(api.ErrKind, optLines, verb, 1)
				h.mustFail(api.ErrKind, optLines, verb, 3, 64)
				h.mustFail(api.ErrKind, optLines, append([]byte{verb, 0}, make([]byte, 33)...)...)
				h.mustFail(api.ErrLong, optLines, append([]byte{verb, 2}, make([]byte, 33)...)...)
				h.mustFail(api.ErrLong, optLines, append([]byte{verb, 2}, make([]byte, 254)...)...)
				if verb != do {
					h.mustFail(api.ErrLong, optLines, verb, 2, 64)
				}
			}
			if where&atUs == 0 {
				h.mustFail(api.ErrState, optLines, do, 2)
				h.mustFail(api.ErrState, optLines, do, 2, 128)
				h.mustFail(api.ErrState, optLines, dont, 2)
			}
			if where&atHim == 0 {
				h.mustFail(api.ErrState, optLines, will, 2)
				h.mustFail(api.ErrState, optLines, wont, 2)
			}
			h.probe()
		}
	}
}

// P18.1: each first byte of Linemode with each second one, wherever it is on.
func TestLinesAllTwoBytes(t *testing.T) {
	for _, where := range places {
		x := tableAt(t, where, optLines)
		for first := range 256 {
			h := waitingHub(t)
			h.x = x
			for second := range 256 {
				h.hear(optLines, byte(first), byte(second))
			}
			h.probe()
		}
	}
}

// P18.1: which error is told where two would be true.
func TestWhichError(t *testing.T) {
	off, all := tableAt(t, atNeither), tableOf(t, every(), every())
	for _, row := range []struct {
		x    *table.Table
		k    iac.Token
		want error
	}{
		{nil, iac.Token{Kind: 1, Cut: true}, api.ErrNone},
		{nil, iac.Token{Kind: sub, Option: 1, Cut: true}, api.ErrNone},
		{off, iac.Token{Kind: 3, Option: 1, Cut: true}, api.ErrKind},
		{off, iac.Token{Kind: 5, Option: 1}, api.ErrKind},
		{off, iac.Token{Kind: sub, Option: 1, Cut: true}, api.ErrLong},
		{off, iac.Token{Kind: sub, Option: optNaws, Cut: true}, api.ErrLong},
		{off, iac.Token{Kind: sub, Option: optNaws, Body: []byte{1}}, api.ErrShort},
		{off, iac.Token{Kind: sub, Option: optNaws, Body: make([]byte, 5)}, api.ErrLong},
		{off, iac.Token{Kind: sub, Option: optTtype}, api.ErrShort},
		{off, iac.Token{Kind: sub, Option: optTtype, Body: []byte{1, 1}}, api.ErrLong},
		{off, iac.Token{Kind: sub, Option: optTtype, Body: []byte{0}}, api.ErrName},
		{off, iac.Token{Kind: sub, Option: optTtype, Body: []byte{2}}, api.ErrForm},
		{off, iac.Token{Kind: sub, Option: optStatus}, api.ErrShort},
		{off, iac.Token{Kind: sub, Option: optStatus, Body: []byte{1, 1}}, api.ErrLong},
		{off, iac.Token{Kind: sub, Option: optStatus, Body: []byte{2}}, api.ErrForm},
		{off, iac.Token{Kind: sub, Option: optStatus, Body: []byte{0, 1, 1}}, api.ErrKind},
		{off, iac.Token{Kind: sub, Option: optStatus, Body: []byte{0, 1, 1, 1}}, api.ErrShort},
		{off, iac.Token{Kind: sub, Option: optStatus, Body: []byte{1}}, api.ErrState},
		{all, iac.Token{Kind: sub, Option: optStatus, Body: []byte{1}}, api.ErrLong},
		{off, iac.Token{Kind: sub, Option: optLines}, api.ErrShort},
		{off, iac.Token{Kind: sub, Option: optLines, Body: []byte{1}}, api.ErrState},
		{off, iac.Token{Kind: sub, Option: optLines, Body: []byte{3, 1}}, api.ErrState},
		{off, iac.Token{Kind: sub, Option: optLines, Body: []byte{do}}, api.ErrShort},
		{off, iac.Token{Kind: sub, Option: optLines, Body: []byte{will, 1}}, api.ErrKind},
		{off, iac.Token{Kind: sub, Option: optLines, Body: []byte{dont, 2, 1}}, api.ErrLong},
		{off, iac.Token{Kind: sub, Option: optLines, Body: []byte{2}}, api.ErrKind},
	} {
		for _, h := range busy(t) {
			h.x = row.x
			if got, err := h.token(row.k); len(got) != 0 || !errors.Is(err, row.want) {
				t.Errorf("Hear of %v: %v, %v, not %v", row.k, got, err, row.want)
			}
			h.probe()
		}
	}
}

// P18.1: an option is heard by where it is on alone: what else is on says
// nothing.
func TestHearEachPlace(t *testing.T) {
	bodies := map[int][][]byte{
		optNaws:   {{0, 80, 0, 24}},
		optTtype:  {{1}, {0, 'a'}},
		optStatus: {{1}, {0}, {0, will, 1}},
		optLines:  {{1, edit}, {1, edit | ack}, {3, 1, value, 8}, {do, 2, 1}, {dont, 2}, {will, 2}, {wont, 2}},
	}
	for option, list := range bodies {
		for _, where := range places {
			for _, x := range []*table.Table{tableAt(t, where, option), tableBut(t, where, option)} {
				for _, b := range list {
					for _, h := range busy(t) {
						h.x = x
						h.hear(option, b...)
						h.probe()
					}
				}
			}
		}
	}
}

// P18.1: Naws on at Us tells our size; on at Him, and off at Us, nothing; off at
// Him the other side's size is gone.
func TestTurnedNaws(t *testing.T) {
	h := newHub(t, full(), tableAt(t, atHim, optNaws))
	heard := naws.Size{Cols: 100, Rows: 50}
	h.mustTell(nil, optNaws, 0, 100, 0, 50)
	for range 2 {
		h.mustTurn(one(optNaws, 0x12, 0x34, 0xff, 0x01), us, optNaws, true)
	}
	h.mustTurn(nil, us, optNaws, false)
	h.mustTurn(nil, him, optNaws, true)
	if h.is.Peer() != heard {
		t.Errorf("the size is %v", h.is.Peer())
	}
	h.mustTurn(nil, him, optNaws, false)
	if h.is.Peer() != (naws.Size{}) {
		t.Errorf("the size is %v", h.is.Peer())
	}
	h.probe()
}

// P18.1: where Ttype turns at Us, on or off, the cycle begins anew.
func TestTurnedTtypeUs(t *testing.T) {
	for _, on := range []bool{true, false} {
		for n := range 9 {
			h := newHub(t, full(), tableAt(t, atBoth, optTtype))
			h.hear(optTtype, typeBody("one")...)
			for range n {
				h.hear(optTtype, 1)
			}
			h.mustTurn(nil, us, optTtype, on)
			mustHaveTypes(t, h, []string{"one"})
			for _, name := range []string{"vt100", "ansi", "xterm", "xterm", "vt100"} {
				h.mustTell(one(optTtype, typeBody(name)...), optTtype, 1)
			}
		}
	}
}

// P18.1: where Ttype is on at Him, the list is empty, and its first type is
// asked for; where it is off there, nothing comes of it.
func TestTurnedTtypeHim(t *testing.T) {
	for _, told := range [][]string{nil, {"one"}, {"one", "two"}, {"one", "one"}, names(8)} {
		h := newHub(t, full(), tableAt(t, atBoth, optTtype))
		h.hear(optTtype, 1)
		for _, name := range told {
			h.hear(optTtype, typeBody(name)...)
		}
		had := h.is.Types()
		h.mustTurn(nil, him, optTtype, false)
		mustHaveTypes(t, h, had)
		h.mustTurn(one(optTtype, 1), him, optTtype, true)
		mustHaveTypes(t, h, nil)
		h.mustTell(one(optTtype, 1), optTtype, typeBody("one")...)
		h.mustTell(nil, optTtype, typeBody("one")...)
		mustHaveTypes(t, h, []string{"one"})
		h.mustTell(one(optTtype, typeBody("ansi")...), optTtype, 1)
		h.probe()
	}
}

// P18.1: where Linemode turns, on or off, at Us or at Him, our side, the head,
// the tail and the mask are as at first; what isn't Linemode's stays.
func TestTurnedLines(t *testing.T) {
	for _, side := range []int{us, him} {
		for _, on := range []bool{true, false} {
			for word, h := range busy(t) {
				size, types, report := h.is.Peer(), h.is.Types(), h.is.Report()
				h.turn(side, optLines, on)
				if h.is.Head() != 0 || h.is.Tail() != 0 {
					t.Errorf("%s: the head has %d, the tail %d", word, h.is.Head(), h.is.Tail())
				}
				if m, is := h.is.Mask(); is || m != rowOf(nil) {
					t.Errorf("%s: the mask is %v, %v", word, m, is)
				}
				if h.is.Peer() != size || !slices.Equal(h.is.Types(), types) || !slices.Equal(h.is.Report(), report) {
					t.Errorf("%s: what isn't Linemode's is turned", word)
				}
				if side == us && on {
					continue
				}
				for f := 1; f <= functions; f++ {
					if h.is.Char(f) != (slc.Setting{}) {
						t.Errorf("%s: of %d it has %v", word, f, h.is.Char(f))
					}
				}
				if h.is.Waits() != 0 {
					t.Errorf("%s: it waits for %d", word, h.is.Waits())
				}
				h.probe()
			}
		}
	}
}

// P18.1: on at Us our side asks for each function of which it holds something,
// has that, and waits; elsewhere it doesn't.
func TestTurnedLinesAsks(t *testing.T) {
	h := newHub(t, full(), tableAt(t, atBoth, optLines))
	for _, turned := range []struct {
		side int
		on   bool
	}{{us, false}, {him, true}, {him, false}} {
		h.mustTurn(nil, turned.side, optLines, turned.on)
	}
	for range 3 {
		h.mustTurn(one(optLines, asksOfFull...), us, optLines, true)
		if h.is.Waits() != 6 {
			t.Errorf("it waits for %d", h.is.Waits())
		}
		for f, want := range map[int]slc.Setting{1: {Level: value, Value: 3}, 2: {Level: cant, Value: 4}, 3: {}, 4: {Level: value}, 5: {}, 14: {Level: value, Value: 13}, 15: {}} {
			if got := h.is.Char(f); got != want {
				t.Errorf("of %d it has %v, not %v", f, got, want)
			}
		}
		h.mustTell(one(optLines, 3, 1, value|128, 9), optLines, 3, 1, value, 9, 2, cant|128, 4)
	}
	h.probe()
}

// P18.1: a side that holds nothing that can be asked for asks for nothing.
func TestTurnedLinesAsksNothing(t *testing.T) {
	for _, holds := range [][]slc.Setting{
		nil,
		{{}, {}, {}},
		{{Level: deflt}, {Level: none, Value: 3}, {Level: value, Value: 256}, {Level: cant, Value: -1}, {Level: 7}},
		append(make([]slc.Setting, 18), slc.Setting{Level: value, Value: 3}),
	} {
		c := plain()
		c.Holds = holds
		h := newHub(t, c, tableAt(t, atUs, optLines))
		h.mustTurn(nil, us, optLines, true)
		if h.is.Waits() != 0 {
			t.Errorf("it waits for %d", h.is.Waits())
		}
		h.probe()
	}
}

// P18.1: a side that holds all functions asks for each of them, and for no more.
func TestTurnedLinesAsksAll(t *testing.T) {
	for _, level := range []int{cant, value} {
		for _, n := range []int{1, 17, 18, 19, 30} {
			c := plain()
			c.Holds = settings(n, level)
			want := []byte{3}
			for f := 1; f <= min(n, 18); f++ {
				want = append(want, byte(f), byte(level), byte(f))
			}
			h := newHub(t, c, tableAt(t, atUs, optLines))
			h.mustTurn(one(optLines, want...), us, optLines, true)
			if h.is.Waits() != min(n, 18) {
				t.Errorf("it waits for %d", h.is.Waits())
			}
		}
	}
}

// P18.1: of Status, of other options, and of sides that are none, nothing comes.
func TestTurnedOthers(t *testing.T) {
	for _, on := range []bool{true, false} {
		h := heardHub(t)
		for _, side := range append(far(), us, him, 2, 3) {
			for _, option := range append(far(), every()...) {
				if (side == us || side == him) && slices.Contains([]int{optNaws, optTtype, optLines}, option) {
					continue
				}
				if got := h.is.Turned(side, option, on); len(got) != 0 {
					t.Errorf("Turned of %d, %d, %v: %v", side, option, on, got)
				}
			}
			h.same()
		}
		h.probe()
	}
}

// P18.1: each turn of each option, at each side, behind each other one.
func TestTurnedTwice(t *testing.T) {
	type turn struct {
		side, option int
		on           bool
	}
	var turns []turn
	for _, option := range options {
		for _, side := range []int{us, him} {
			turns = append(turns, turn{side, option, true}, turn{side, option, false})
		}
	}
	for _, a := range turns {
		for _, b := range turns {
			for _, h := range busy(t) {
				h.turn(a.side, a.option, a.on)
				h.turn(b.side, b.option, b.on)
				h.probe()
			}
		}
	}
}

// P18.1, P18.2: a mask of lines is set where Linemode is on at Him; the head's
// errors, and which one is told.
func TestSet(t *testing.T) {
	for _, where := range places {
		h := newHub(t, full(), tableBut(t, where, optLines))
		if where&atHim == 0 {
			for _, n := range append(far(), 0, edit, ack, 31) {
				h.mustNotSet(api.ErrState, n)
			}
			h.probe()
			continue
		}
		for _, n := range append(far(), ack, edit|ack, 32, 31, 64, 128, 255, 256) {
			h.mustNotSet(api.ErrForm, n)
		}
		h.mustNotSet(api.ErrDup, 0)
		h.mustSet(edit | soft)
		for _, n := range []int{0, edit, edit | soft, lit} {
			h.mustNotSet(api.ErrState, n)
		}
		h.mustNotSet(api.ErrForm, ack)
		h.mustNotSet(api.ErrForm, -1)
		h.probe()
	}
}

// P18.1: each mask can be set, and isn't what the tail has.
func TestSetEach(t *testing.T) {
	h := newHub(t, full(), tableAt(t, atHim, optLines))
	for n := 31; n >= 0; n-- {
		if !isMask(n) {
			continue
		}
		h.mustSet(n)
		h.mustTell(nil, optLines, 1, byte(n|ack))
		h.mustNotSet(api.ErrDup, n)
	}
	h.probe()
}

// P18.1: our side and the head wait, each for itself, and both are counted.
func TestWaits(t *testing.T) {
	h := newHub(t, full(), tableAt(t, atHim, optLines))
	h.turn(us, optLines, true)
	mustWait(t, h, 6)
	h.mustSet(edit)
	mustWait(t, h, 7)
	h.mustTell(nil, optLines, 3, 1, value|128, 3)
	mustWait(t, h, 6)
	h.mustTell(nil, optLines, 1, edit|ack)
	mustWait(t, h, 5)
	h.mustTell(nil, optLines, 3, 2, cant|128, 4, 4, value|128, 0, 7, value|128, 255, 8, cant|128, 0)
	mustWait(t, h, 1)
	h.mustTell(nil, optLines, 3, 14, value|128, 13, 15, value|128, 1)
	mustWait(t, h, 0)
}

// mustWait holds for how many answers a hub waits.
func mustWait(t *testing.T, h *hub, want int) {
	t.Helper()
	if got := h.is.Waits(); got != want {
		t.Fatalf("it waits for %d, not %d", got, want)
	}
}

// P18.2: an error changes nothing that any call answers, whatever was ahead of
// it: of bodies that are cut short, that are longer, and that are of another
// kind, wherever the options are on.
func TestErrorsChangeNothing(t *testing.T) {
	right := map[int][][]byte{
		optNaws:   {{0, 80, 0, 24}},
		optTtype:  {{1}, typeBody("three")},
		optStatus: {{1}, {0, will, 1, do, 2}},
		optLines:  {{1, edit}, {1, trap | ack}, {3, 1, value, 60, 2, none, 0}, {do, 2, 255}, {dont, 2}, {will, 2}, {wont, 2}},
	}
	for option, list := range right {
		for _, where := range places {
			x := tableAt(t, where, options...)
			for _, b := range list {
				for _, wrong := range wrongs(b) {
					for _, h := range busy(t) {
						h.x = x
						if _, err := h.hear(option, wrong...); err != nil {
							h.probe()
						}
					}
				}
			}
		}
	}
}

// wrongs is what becomes of bytes that are cut short, that go on, and of which
// one is another one; and these bytes.
func wrongs(b []byte) [][]byte {
	list := [][]byte{b, append(slices.Clone(b), 0), append(slices.Clone(b), b...), append(slices.Clone(b), make([]byte, 250)...)}
	for i := range b {
		list = append(list, b[:i])
		for _, c := range []byte{0, 4, 32, 127, 255} {
			other := slices.Clone(b)
			other[i] = c
			list = append(list, other)
		}
	}
	return list
}

// P18.1: two hubs are apart from each other.
func TestApart(t *testing.T) {
	for _, first := range busy(t) {
		second := newHub(t, full(), tableAt(t, atBoth, options...))
		first.probe()
		second.same()
		second.probe()
		first.same()
	}
}
