package end_test

import (
	"bytes"
	"errors"
	"math"
	"math/rand"
	"slices"
	"strings"
	"testing"

	"truchman/api"
	"truchman/end"
	"truchman/mode"
	"truchman/naws"
	"truchman/qstate"
	"truchman/slc"
	"truchman/subneg"
	"truchman/table"
)

// simple is a Config that agrees to nothing, and holds nothing.
func simple() end.Config { return agreeing(nil, nil) }

// agreeing is a Config that agrees to options on our side, and on his.
func agreeing(us, him []int) end.Config {
	return end.Config{
		Policy: table.Policy{Us: us, Him: him},
		Hub:    subneg.Config{Size: naws.Size{Cols: 80, Rows: 24}, Types: []string{"vt100"}},
	}
}

// every is a Config that agrees to all options on both sides, with something of
// everything in its hub.
func every() end.Config {
	var all []int
	for option := range 256 {
		all = append(all, option)
	}
	return end.Config{
		Policy: table.Policy{Us: all, Him: all},
		Hub: subneg.Config{
			Size:  naws.Size{Cols: 255, Rows: 0xff0d},
			Types: []string{"vt100", "ansi"},
			Holds: []slc.Setting{{Level: slc.Value, Value: 3}, {Level: slc.None}, {Level: slc.Cant, Value: 255}},
			Can:   mode.Edit | mode.Soft,
		},
	}
}

// piece is a piece of these bytes.
func piece(kind int, b ...byte) end.Piece { return end.Piece{Kind: kind, Bytes: b} }

// subPiece is the piece of a subnegotiation of a body in which nothing is doubled.
func subPiece(option byte, body ...byte) end.Piece {
	b := append([]byte{cmd, sb, option}, body...)
	return piece(sub, append(b, cmd, se)...)
}

// subBytes is the bytes of such a subnegotiation.
func subBytes(option byte, body ...byte) []byte { return subPiece(option, body...).Bytes }

// typeBody is a type's body.
func typeBody(name string) []byte { return append([]byte{0}, name...) }

// turnedTo is the note of an option that turned.
func turnedTo(side, option int, on bool) end.Note {
	return end.Note{Kind: turned, Side: side, Option: option, On: on}
}

// join is rows, one behind the other.
func join(list ...[]byte) []byte { return slices.Concat(list...) }

// far is numbers that are far below, or beyond, what is ever meant; among them
// such whose last bits are those of what is.
func far() []int {
	return []int{
		math.MinInt, math.MinInt + 6, -1<<32 + 24, -1 << 32, math.MinInt32, -1<<16 + 6, -256 + 31, -2, -1,
		256, 256 + 6, 512 + 34, 1 << 16, math.MaxInt32, 1 << 31, 1 << 32, 1<<32 + 1, 1<<32 + 6, math.MaxInt - 1, math.MaxInt,
	}
}

// mustTake holds what is to be sent.
func (b *both) mustTake(want ...end.Piece) {
	b.t.Helper()
	if list := b.take(); !samePieces(list, want) {
		b.t.Fatalf("to be sent is %v, not %v", list, want)
	}
}

// mustFeed feeds bytes, and holds all that comes of them.
func (b *both) mustFeed(in []byte, came string, notes []end.Note, pieces ...end.Piece) {
	b.t.Helper()
	is, met := b.feed(in...)
	if string(is) != came || !slices.Equal(met, notes) {
		b.t.Fatalf("%v: %q, %v, not %q, %v", in, is, met, came, notes)
	}
	b.mustTake(pieces...)
}

// mustAsk asks, and holds all that comes of it.
func (b *both) mustAsk(side, option int, on bool, notes []end.Note, pieces ...end.Piece) {
	b.t.Helper()
	met, err := b.ask(side, option, on)
	if err != nil || !slices.Equal(met, notes) {
		b.t.Fatalf("Ask of %d, %d, %v: %v, %v, not %v", side, option, on, met, err, notes)
	}
	b.mustTake(pieces...)
}

// bring brings an option at a side to the state of a word, if it can: it must be
// agreed to there.
func (b *both) bring(side, option int, word string) {
	b.t.Helper()
	yes, no := []byte{cmd, do, byte(option)}, []byte{cmd, dont, byte(option)}
	if side == him {
		yes, no = []byte{cmd, will, byte(option)}, []byte{cmd, wont, byte(option)}
	}
	switch word {
	case "no":
		b.feed(no...)
		b.feed(no...)
	case "yes":
		b.feed(yes...)
	case "wantno", "wantno!":
		b.feed(yes...)
		b.ask(side, option, false)
	case "wantyes", "wantyes!":
		b.feed(no...)
		b.ask(side, option, true)
	}
	if word == "wantno!" || word == "wantyes!" {
		b.ask(side, option, word == "wantno!")
	}
	if b.m.word(side, option) != word {
		b.t.Fatalf("%d at %d is %s, not %s", option, side, b.m.word(side, option), word)
	}
}

// words has the states that there are.
var words = []string{"no", "yes", "wantno", "wantno!", "wantyes", "wantyes!"}

func TestExample(t *testing.T) {
	b := newEnd(t, agreeing(nil, []int{binary}))
	b.mustFeed([]byte{cmd, will, binary}, "", []end.Note{{Kind: end.Turned, Side: table.Him, Option: 0, On: true}}, piece(end.Verb, 255, 253, 0))
	b.holdAll()
}

// The kinds of pieces and of notes are numbers that the chapter tells.
func TestKinds(t *testing.T) {
	if end.Data != 1 || end.Plain != 2 || end.Verb != 3 || end.Sub != 4 {
		t.Error("the kinds of pieces")
	}
	if end.Command != 1 || end.Marked != 2 || end.Turned != 3 || end.Wrong != 4 || end.Dropped != 5 {
		t.Error("the kinds of notes")
	}
}

// P20.1: what makes no hub makes no end.
func TestNewErrors(t *testing.T) {
	for _, row := range []struct {
		size  naws.Size
		types []string
		want  error
	}{
		{naws.Size{Cols: -1, Rows: 24}, []string{"a"}, api.ErrRange},
		{naws.Size{Cols: 80, Rows: 65536}, []string{"a"}, api.ErrRange},
		{naws.Size{Cols: 80, Rows: 65536}, []string{""}, api.ErrRange},
		{naws.Size{}, nil, api.ErrRange},
		{naws.Size{}, strings.Split("a,b,c,d,e,f,g,h,i", ","), api.ErrRange},
		{naws.Size{}, []string{""}, api.ErrName},
		{naws.Size{}, []string{"vt100", "vt 100"}, api.ErrName},
		{naws.Size{}, []string{strings.Repeat("x", 25)}, api.ErrName},
	} {
		c := every()
		c.Hub.Size, c.Hub.Types = row.size, row.types
		if e, err := end.New(c); e != nil || !errors.Is(err, row.want) {
			t.Errorf("New of %v, %q: %v, %v, not %v", row.size, row.types, e, err, row.want)
		}
	}
	if e, err := end.New(end.Config{}); e != nil || !errors.Is(err, api.ErrRange) {
		t.Errorf("New of nothing: %v, %v", e, err)
	}
}

// P20.1: on a new end nothing has happened.
func TestNew(t *testing.T) {
	for _, c := range []end.Config{simple(), every(), agreeing(far(), far())} {
		e, err := end.New(c)
		if err != nil {
			t.Fatal(err)
		}
		for side := -1; side <= 2; side++ {
			for _, option := range append(far(), 0, 1, 6, 24, 31, 34, 255) {
				if e.State(side, option) != (qstate.State{Kind: qstate.No}) || e.On(side, option) {
					t.Errorf("%d at %d: %v", option, side, e.State(side, option))
				}
			}
		}
		heard, asked, sent := e.Counts()
		if heard != 0 || asked != 0 || sent != 0 || !e.Calm() || e.Deaf() || len(e.Take()) != 0 {
			t.Errorf("%d, %d, %d, calm %v, deaf %v", heard, asked, sent, e.Calm(), e.Deaf())
		}
		h := e.Hub()
		if h == nil || h.Peer() != (naws.Size{}) || len(h.Types()) != 0 || len(h.Report()) != 0 || h.Waits() != 0 {
			t.Errorf("the hub has heard something")
		}
		newEnd(t, c).holdAll()
	}
}

// P20.1: each byte that is data comes in as it is, with no note, and nothing is to
// be sent.
func TestDataBytes(t *testing.T) {
	for c := range 255 {
		newEnd(t, every()).mustFeed([]byte{byte(c)}, string([]byte{byte(c)}), nil)
	}
	newEnd(t, every()).mustFeed([]byte{cmd, cmd}, "\xff", nil)
}

// P20.1: data, written down, not raw and raw.
func TestDataRows(t *testing.T) {
	for _, row := range []struct {
		in, came, raw string
	}{
		{"", "", ""},
		{"abc", "abc", "abc"},
		{"\r\x00a", "\ra", "\r\x00a"},
		{"\r\na", "\r\na", "\r\na"},
		{"\r\x00\x00", "\r\x00", "\r\x00\x00"},
		{"\x00\r", "\x00\r", "\x00\r"},
		{"\r\r\x00", "\r\r", "\r\r\x00"},
		{"a\xff\xffb", "a\xffb", "a\xffb"},
		{"\xff\xff\xff\xff", "\xff\xff", "\xff\xff"},
		{"\r\xff\xff\x00", "\r\xff\x00", "\r\xff\x00"},
		{"\r\xff\xf1\x00b", "\rb", "\r\x00b"},
	} {
		for _, raw := range ways {
			b, want := newEnd(t, every()), row.came
			if raw {
				want = row.raw
				b.bring(him, binary, "yes")
			}
			if came, _ := b.feed([]byte(row.in)...); string(came) != want {
				t.Errorf("%q, raw %v: %q, not %q", row.in, raw, came, want)
			}
			b.holdAll()
		}
	}
}

// P20.1: what comes is raw as long as Binary is on at Him, byte by byte; Binary at
// Us has nothing to do with it.
func TestRawComes(t *testing.T) {
	b := newEnd(t, every())
	b.feed(cmd, do, binary)
	b.take()
	b.mustFeed([]byte("\r\x00a"), "\ra", nil)
	b.mustFeed([]byte{13, cmd, will, binary, 0}, "\r\x00", []end.Note{turnedTo(him, binary, true)}, piece(verb, cmd, do, binary))
	b.mustFeed([]byte("\r\x00a\r"), "\r\x00a\r", nil)
	b.mustFeed([]byte{cmd, wont, binary, 0}, "\x00", []end.Note{turnedTo(him, binary, false)}, piece(verb, cmd, dont, binary))
	b.mustFeed([]byte("\r\x00a"), "\ra", nil)
	b.mustAsk(him, binary, true, nil, piece(verb, cmd, do, binary))
	b.mustFeed([]byte("\r\x00a"), "\ra", nil)
	b.mustFeed([]byte{cmd, will, binary}, "", []end.Note{turnedTo(him, binary, true)})
	b.mustFeed([]byte("\r\x00a"), "\r\x00a", nil)
	b.mustAsk(him, binary, false, []end.Note{turnedTo(him, binary, false)}, piece(verb, cmd, dont, binary))
	b.mustFeed([]byte("\r\x00a"), "\ra", nil)
	b.holdAll()
}

// P20.1: a plain command is a note of its code, also where the code is no command;
// of AYT NOP is to be sent.
func TestPlain(t *testing.T) {
	for code := range 256 {
		if code >= sb {
			continue
		}
		for _, c := range []end.Config{simple(), every()} {
			b := newEnd(t, c)
			var pieces []end.Piece
			if code == ayt {
				pieces = []end.Piece{piece(plain, cmd, nop)}
			}
			b.mustFeed([]byte{cmd, byte(code)}, "", []end.Note{{Kind: command, Code: code}}, pieces...)
			b.holdAll()
		}
	}
	b := newEnd(t, simple())
	b.mustFeed([]byte{cmd, ayt, 'a', cmd, ayt}, "a", []end.Note{{Kind: command, Code: ayt}, {Kind: command, Code: ayt}}, piece(plain, cmd, nop), piece(plain, cmd, nop))
}

// P20.1: the option Mark is never on: each DO is answered, whatever is agreed to,
// and each verb is a note.
func TestMarkHeard(t *testing.T) {
	for _, c := range []end.Config{simple(), every(), agreeing([]int{mark}, nil), agreeing(nil, []int{mark})} {
		b := newEnd(t, c)
		for i, code := range []byte{do, do, will, wont, dont, do, will, will} {
			var pieces []end.Piece
			if code == do {
				pieces = []end.Piece{piece(verb, cmd, will, mark)}
			}
			b.mustFeed([]byte{cmd, code, mark}, "", []end.Note{{Kind: marked, Code: int(code)}}, pieces...)
			if heard, asked, _ := b.is.Counts(); heard != i+1 || asked != 0 {
				t.Errorf("%d were heard, %d asked", heard, asked)
			}
		}
		if _, _, sent := b.is.Counts(); sent != 3 {
			t.Errorf("%d were sent", sent)
		}
		if !b.is.Calm() || b.is.On(us, mark) || b.is.On(him, mark) {
			t.Error("Mark is on")
		}
		b.holdAll()
	}
}

// P20.1: of the option Mark but his side is asked for, on, as often as may be.
func TestMarkAsked(t *testing.T) {
	for _, c := range []end.Config{simple(), every()} {
		b := newEnd(t, c)
		for _, side := range append(far(), us, him, 2, 6) {
			for _, on := range ways {
				if side == him && on {
					continue
				}
				if notes, err := b.ask(side, mark, on); len(notes) != 0 || !errors.Is(err, api.ErrKind) {
					t.Errorf("Ask of %d, Mark, %v: %v, %v", side, on, notes, err)
				}
			}
		}
		b.mustTake()
		for n := 1; n <= 3; n++ {
			b.mustAsk(him, mark, true, nil, piece(verb, cmd, do, mark))
			if heard, asked, sent := b.is.Counts(); heard != 0 || asked != n || sent != n {
				t.Errorf("Counts: %d, %d, %d", heard, asked, sent)
			}
		}
		if !b.is.Calm() || b.is.State(him, mark) != (qstate.State{}) {
			t.Error("Mark is wanted")
		}
		b.holdAll()
	}
}

// P20.1: each verb of each option, in each state, agreed to or not; and each state
// is brought on by askings and verbs.
func TestVerbs(t *testing.T) {
	for _, agree := range ways {
		for _, side := range sides {
			for _, word := range words {
				for _, code := range verbs {
					b := newEnd(t, simple())
					if agree {
						b = newEnd(t, every())
					}
					for option := range 256 {
						if option == mark || !agree && word != "no" && option%5 != 0 {
							continue
						}
						if !agree && word != "no" && word != "wantyes" && word != "wantyes!" {
							b.ask(side, option, true)
						}
						b.bring(side, option, word)
						b.feed(cmd, code, byte(option))
						b.holdOption(us, option)
						b.holdOption(him, option)
					}
					b.holdAll()
				}
			}
		}
	}
}

// P20.1: each verb, written down, of an option of which the hub tells nothing.
func TestVerbRows(t *testing.T) {
	for _, row := range []struct {
		word  string
		agree bool
		code  byte
		notes []end.Note
		sent  byte
	}{
		{"no", true, do, []end.Note{turnedTo(us, echo, true)}, will},
		{"no", false, do, nil, wont},
		{"no", true, dont, nil, 0},
		{"yes", true, do, nil, 0},
		{"yes", true, dont, []end.Note{turnedTo(us, echo, false)}, wont},
		{"wantno", true, do, []end.Note{{Kind: wrong, Side: us, Option: echo}}, 0},
		{"wantno", true, dont, nil, 0},
		{"wantno!", true, do, []end.Note{turnedTo(us, echo, true), {Kind: wrong, Side: us, Option: echo}}, 0},
		{"wantno!", true, dont, nil, will},
		{"wantyes", false, do, []end.Note{turnedTo(us, echo, true)}, 0},
		{"wantyes", true, dont, nil, 0},
		{"wantyes!", true, do, nil, wont},
		{"wantyes!", true, dont, nil, 0},
		{"no", true, will, []end.Note{turnedTo(him, echo, true)}, do},
		{"no", false, will, nil, dont},
		{"no", true, wont, nil, 0},
		{"yes", true, will, nil, 0},
		{"yes", true, wont, []end.Note{turnedTo(him, echo, false)}, dont},
		{"wantno", true, will, []end.Note{{Kind: wrong, Side: him, Option: echo}}, 0},
		{"wantno", true, wont, nil, 0},
		{"wantno!", true, will, []end.Note{turnedTo(him, echo, true), {Kind: wrong, Side: him, Option: echo}}, 0},
		{"wantno!", true, wont, nil, do},
		{"wantyes", false, will, []end.Note{turnedTo(him, echo, true)}, 0},
		{"wantyes", true, wont, nil, 0},
		{"wantyes!", true, will, nil, dont},
		{"wantyes!", true, wont, nil, 0},
	} {
		b, side := newEnd(t, simple()), us
		if row.agree {
			b = newEnd(t, agreeing([]int{echo}, []int{echo}))
		}
		if row.code == will || row.code == wont {
			side = him
		}
		b.bring(side, echo, row.word)
		b.take()
		var pieces []end.Piece
		if row.sent != 0 {
			pieces = []end.Piece{piece(verb, cmd, row.sent, echo)}
		}
		b.mustFeed([]byte{cmd, row.code, echo}, "", row.notes, pieces...)
		b.holdAll()
	}
}

// P20.1: what the hub tells on an option that turns is to be sent behind the verb.
func TestTurned(t *testing.T) {
	size := subPiece(optNaws, 0, cmd, cmd, cmd, cmd, 13)
	chars := subPiece(optLines, 3, 1, 2, 3, 3, 1, cmd, cmd)
	ask := subPiece(optTtype, 1)
	b := newEnd(t, every())
	for _, row := range []struct {
		code   byte
		side   int
		option byte
		on     bool
		answer byte
		told   []end.Piece
	}{
		{do, us, optNaws, true, will, []end.Piece{size}},
		{dont, us, optNaws, false, wont, nil},
		{do, us, optNaws, true, will, []end.Piece{size}},
		{will, him, optNaws, true, do, nil},
		{will, him, optTtype, true, do, []end.Piece{ask}},
		{wont, him, optTtype, false, dont, nil},
		{will, him, optTtype, true, do, []end.Piece{ask}},
		{do, us, optTtype, true, will, nil},
		{do, us, optLines, true, will, []end.Piece{chars}},
		{will, him, optLines, true, do, nil},
		{dont, us, optLines, false, wont, nil},
		{do, us, optLines, true, will, []end.Piece{chars}},
		{do, us, optStatus, true, will, nil},
		{will, him, optStatus, true, do, nil},
		{do, us, binary, true, will, nil},
		{will, him, binary, true, do, nil},
		{do, us, optNameless, true, will, nil},
		{will, him, 255, true, do, nil},
		{do, us, 255, true, will, nil},
	} {
		pieces := append([]end.Piece{piece(verb, cmd, row.answer, row.option)}, row.told...)
		b.mustFeed([]byte{cmd, row.code, row.option}, "", []end.Note{turnedTo(row.side, int(row.option), row.on)}, pieces...)
	}
	b.holdAll()
}

// P20.1: what the hub tells is to be sent, too, where an option turns that was asked
// for, and where a wrong answer turns it.
func TestTurnedByAnswer(t *testing.T) {
	b := newEnd(t, simple())
	b.mustAsk(us, optNaws, true, nil, piece(verb, cmd, will, optNaws))
	b.mustFeed([]byte{cmd, do, optNaws}, "", []end.Note{turnedTo(us, optNaws, true)}, subPiece(optNaws, 0, 80, 0, 24))
	b.mustAsk(us, optNaws, false, []end.Note{turnedTo(us, optNaws, false)}, piece(verb, cmd, wont, optNaws))
	b.mustAsk(us, optNaws, true, nil)
	b.mustFeed([]byte{cmd, do, optNaws}, "", []end.Note{turnedTo(us, optNaws, true), {Kind: wrong, Side: us, Option: optNaws}}, subPiece(optNaws, 0, 80, 0, 24))
	b.mustAsk(him, optTtype, true, nil, piece(verb, cmd, do, optTtype))
	b.mustFeed([]byte{cmd, will, optTtype}, "", []end.Note{turnedTo(him, optTtype, true)}, subPiece(optTtype, 1))
	b.holdAll()
}

// P20.1: what is asked off is on no more: the hub, which is one and the same, hears
// of that at once.
func TestAskedOff(t *testing.T) {
	b := newEnd(t, every())
	h := b.is.Hub()
	b.feed(cmd, will, optNaws)
	b.hears(optNaws, 0, 100, 0, 50)
	b.feed(cmd, will, optLines)
	b.set(mode.Edit)
	b.take()
	if h.Peer() != (naws.Size{Cols: 100, Rows: 50}) || h.Waits() != 1 {
		t.Errorf("%v, %d", h.Peer(), h.Waits())
	}
	b.mustAsk(him, optNaws, false, []end.Note{turnedTo(him, optNaws, false)}, piece(verb, cmd, dont, optNaws))
	b.mustAsk(him, optLines, false, []end.Note{turnedTo(him, optLines, false)}, piece(verb, cmd, dont, optLines))
	if h.Peer() != (naws.Size{}) || h.Waits() != 0 || h.Head() != 0 {
		t.Errorf("%v, %d, %d", h.Peer(), h.Waits(), h.Head())
	}
	if notes := b.hears(optNaws, 0, 100, 0, 50); !slices.Equal(notes, []end.Note{{Kind: dropped, Option: optNaws}}) {
		t.Errorf("%v", notes)
	}
	b.mustFeed([]byte{cmd, wont, optNaws, cmd, wont, optLines}, "", nil)
	if h != b.is.Hub() {
		t.Error("there are two hubs")
	}
	b.holdAll()
}

// P20.1: of each option, in each state, on and off; the errors, in their order.
func TestAsk(t *testing.T) {
	for _, on := range ways {
		for _, side := range sides {
			for _, word := range words {
				b := newEnd(t, every())
				for option := range 256 {
					if option != mark {
						b.bring(side, option, word)
						b.take()
						b.ask(side, option, on)
					}
				}
				b.holdAll()
			}
		}
	}
	b := newEnd(t, every())
	b.bring(us, echo, "yes")
	b.holdAll()
	for _, on := range ways {
		for _, number := range append(far(), 2, 3) {
			for _, option := range append(far(), 0, 1, 24, 255) {
				if notes, err := b.ask(number, option, on); len(notes) != 0 || !errors.Is(err, api.ErrKind) {
					t.Errorf("Ask of %d, %d: %v, %v", number, option, notes, err)
				}
			}
		}
		for _, side := range sides {
			for _, option := range far() {
				if notes, err := b.ask(side, option, on); len(notes) != 0 || !errors.Is(err, api.ErrRange) {
					t.Errorf("Ask of %d, %d: %v, %v", side, option, notes, err)
				}
			}
		}
	}
	if _, err := b.ask(us, echo, true); !errors.Is(err, api.ErrState) {
		t.Errorf("on, where it is: %v", err)
	}
	if _, err := b.ask(him, echo, false); !errors.Is(err, api.ErrState) {
		t.Errorf("off, where it isn't: %v", err)
	}
	b.mustTake()
	if _, asked, _ := b.is.Counts(); asked != 0 {
		t.Errorf("errors are counted: %d", asked)
	}
	b.holdAll()
}

// P20.1: asking, written down: what is asked for later is nothing to be sent, and
// counts all the same.
func TestAskRows(t *testing.T) {
	b := newEnd(t, simple())
	b.mustAsk(us, sga, true, nil, piece(verb, cmd, will, sga))
	b.mustAsk(us, sga, false, nil)
	b.mustAsk(us, sga, true, nil)
	b.mustFeed([]byte{cmd, do, sga}, "", []end.Note{turnedTo(us, sga, true)})
	b.mustAsk(us, sga, false, []end.Note{turnedTo(us, sga, false)}, piece(verb, cmd, wont, sga))
	b.mustAsk(us, sga, true, nil)
	b.mustAsk(us, sga, false, nil)
	b.mustAsk(him, sga, true, nil, piece(verb, cmd, do, sga))
	if b.is.Calm() {
		t.Error("it is calm")
	}
	b.mustFeed([]byte{cmd, dont, sga, cmd, wont, sga}, "", nil)
	if !b.is.Calm() {
		t.Error("it isn't calm")
	}
	if heard, asked, sent := b.is.Counts(); heard != 3 || asked != 7 || sent != 3 {
		t.Errorf("Counts: %d, %d, %d", heard, asked, sent)
	}
	b.holdAll()
}

// P20.1: subnegotiations, written down: the hub's answers are to be sent.
func TestSubs(t *testing.T) {
	b := newEnd(t, every())
	b.feed(cmd, do, optTtype, cmd, will, optTtype, cmd, do, optStatus, cmd, will, optNaws, cmd, will, optStatus, cmd, do, optLines)
	b.take()
	b.mustFeed(subBytes(optTtype, 1), "", nil, subPiece(optTtype, typeBody("vt100")...))
	b.mustFeed(subBytes(optTtype, 1), "", nil, subPiece(optTtype, typeBody("ansi")...))
	b.mustFeed(subBytes(optTtype, typeBody("xterm")...), "", nil, subPiece(optTtype, 1))
	b.mustFeed(subBytes(optTtype, typeBody("xterm")...), "", nil)
	b.mustFeed(subBytes(optStatus, 1), "", nil, subPiece(optStatus, 0, will, 5, will, 24, will, 34, do, 5, do, 24, do, 31))
	b.mustFeed(subBytes(optStatus, 0, do, 1), "", nil)
	b.mustFeed(subBytes(optNaws, 0, cmd, cmd, 1, 0), "", nil)
	b.mustFeed(subBytes(optLines, 1, mode.Edit|mode.Trap), "", nil, subPiece(optLines, 1, mode.Edit|mode.Ack))
	b.mustFeed(subBytes(optLines, do, 2, 64), "", nil, subPiece(optLines, will, 2))
	b.mustFeed(subBytes(optLines, 3, 1, 2, cmd, cmd, 2, 2, 7, 3, 2, 9), "", nil, subPiece(optLines, 3, 1, 130, cmd, cmd, 2, 0, 0, 3, 1, cmd, cmd))
	h := b.is.Hub()
	if h.Peer() != (naws.Size{Cols: 255, Rows: 256}) || !slices.Equal(h.Types(), []string{"xterm"}) || h.Tail() != mode.Edit {
		t.Errorf("%v, %q, %d", h.Peer(), h.Types(), h.Tail())
	}
	if len(h.Report()) != 1 || h.Char(1) != (slc.Setting{Level: slc.Value, Value: 255}) {
		t.Errorf("%v, %v", h.Report(), h.Char(1))
	}
	b.holdAll()
}

// P20.1: what the hub has an error of is dropped, of each option, and changes
// nothing.
func TestDropped(t *testing.T) {
	for option := range 256 {
		b := newEnd(t, every())
		for _, body := range [][]byte{nil, {1}, {0, 'a'}, {0, 80, 0, 24}, {0, do, 1}, {1, 1}, {3, 1, 2, 3}, {do, 2}, {cmd, cmd}} {
			b.mustFeed(subBytes(byte(option), body...), "", []end.Note{{Kind: dropped, Option: option}})
		}
		b.holdAll()
	}
	b := newEnd(t, every())
	for _, option := range []byte{optTtype, optNaws, optStatus, optLines} {
		b.feed(cmd, do, option, cmd, will, option)
	}
	b.take()
	for _, row := range []struct {
		option int
		body   []byte
	}{
		{optTtype, nil}, {optTtype, []byte{2}}, {optTtype, []byte{0}}, {optTtype, []byte{1, 1}},
		{optNaws, nil}, {optNaws, []byte{0, 80, 0}}, {optNaws, []byte{0, 80, 0, 24, 0}},
		{optStatus, nil}, {optStatus, []byte{1, 1}}, {optStatus, []byte{0, do}}, {optStatus, []byte{0, 1, 1}},
		{optLines, nil}, {optLines, []byte{2}}, {optLines, []byte{1}}, {optLines, []byte{1, 4}}, {optLines, []byte{3, 1}}, {optLines, []byte{do, 3}},
		{echo, nil}, {optNameless, []byte{1}}, {255, nil}, {mark, []byte{1}}, {binary, nil},
	} {
		b.mustFeed(subBytes(byte(row.option), row.body...), "", []end.Note{{Kind: dropped, Option: row.option}})
		b.holdAll()
	}
}

// P20.1: a body of as many bytes as may be is heard, and answered by one; what is
// longer is dropped, also where its beginning would say something.
func TestCut(t *testing.T) {
	asked, told := []byte{3}, []byte{3}
	for range 85 {
		asked, told = append(asked, 3, 3, 0), append(told, 3, 1, cmd, cmd)
	}
	b := newEnd(t, every())
	b.feed(cmd, do, optLines)
	b.take()
	b.mustFeed(subBytes(optLines, asked...), "", nil, subPiece(optLines, told...))
	for _, more := range [][]byte{{1}, {3, 3, 0}, make([]byte, 300)} {
		b.mustFeed(subBytes(optLines, append(asked, more...)...), "", []end.Note{{Kind: dropped, Option: optLines}})
	}
	b.feed(cmd, will, optNaws)
	b.take()
	b.mustFeed(subBytes(optNaws, make([]byte, 2000)...), "", []end.Note{{Kind: dropped, Option: optNaws}})
	b.mustFeed([]byte("ab"), "ab", nil)
	b.holdAll()
}

// P20.1: a subnegotiation that ends with what can't end it is dropped, with the
// option alone; the byte that ended it is looked at no more.
func TestBad(t *testing.T) {
	for c := range 255 {
		if c == se {
			continue
		}
		for _, option := range []byte{0, mark, optTtype, optNaws, 255} {
			b := newEnd(t, every())
			b.mustFeed([]byte{cmd, sb, option, 1, cmd, byte(c), 'x'}, "x", []end.Note{{Kind: dropped, Option: int(option)}})
			b.holdAll()
		}
	}
}

// P20.1: from a mark on data are left out, up to a DM; all else is heard.
func TestDeaf(t *testing.T) {
	b := newEnd(t, every())
	b.mustFeed([]byte("a"), "a", nil)
	if came, notes := b.byte('b', true); len(came) != 0 || len(notes) != 0 || !b.is.Deaf() {
		t.Errorf("%v, %v, %v", came, notes, b.is.Deaf())
	}
	b.mustFeed([]byte{'c', cmd, do, optNaws, cmd, ayt, cmd, cmd}, "", []end.Note{turnedTo(us, optNaws, true), {Kind: command, Code: ayt}},
		piece(verb, cmd, will, optNaws), subPiece(optNaws, 0, cmd, cmd, cmd, cmd, 13), piece(plain, cmd, nop))
	b.mustFeed(subBytes(optTtype, 1), "", []end.Note{{Kind: dropped, Option: optTtype}})
	b.mustFeed([]byte{cmd, do, mark, 'd', cmd, dm, 'e'}, "e", []end.Note{{Kind: marked, Code: do}, {Kind: command, Code: dm}}, piece(verb, cmd, will, mark))
	if b.is.Deaf() {
		t.Error("it is deaf behind a DM")
	}
	b.feed(cmd)
	if _, notes := b.byte(dm, true); !slices.Equal(notes, []end.Note{{Kind: command, Code: dm}}) || b.is.Deaf() {
		t.Errorf("a DM with a mark: %v, %v", notes, b.is.Deaf())
	}
	b.mustFeed([]byte("f"), "f", nil)
	b.holdAll()
}

// P20.1: a mask is set where Linemode is on at Him; layer 18's errors.
func TestSet(t *testing.T) {
	b := newEnd(t, every())
	for _, n := range append(far(), 0, 1, 27) {
		if err := b.set(n); !errors.Is(err, api.ErrState) {
			t.Errorf("Set of %d: %v", n, err)
		}
	}
	b.feed(cmd, do, optLines)
	b.take()
	if err := b.set(1); !errors.Is(err, api.ErrState) {
		t.Errorf("on at Us alone: %v", err)
	}
	b.feed(cmd, will, optLines)
	b.take()
	for _, n := range append(far(), 4, 5, 31, 32) {
		if err := b.set(n); !errors.Is(err, api.ErrForm) {
			t.Errorf("Set of %d: %v", n, err)
		}
	}
	if err := b.set(0); !errors.Is(err, api.ErrDup) {
		t.Errorf("Set of what it has: %v", err)
	}
	b.mustTake()
	if err := b.set(27); err != nil {
		t.Error(err)
	}
	b.mustTake(subPiece(optLines, 1, 27))
	if err := b.set(1); !errors.Is(err, api.ErrState) {
		t.Errorf("Set, while it waits: %v", err)
	}
	b.feed(cmd, dont, optLines, cmd, will, optLines)
	b.take()
	if heard, asked, sent := b.is.Counts(); heard != 4 || asked != 0 || sent != 3 {
		t.Errorf("Counts: %d, %d, %d", heard, asked, sent)
	}
	b.holdAll()
}

// P20.1: the head, of which Set tells, hears the answer.
func TestSetAnswered(t *testing.T) {
	b := newEnd(t, agreeing(nil, []int{optLines}))
	b.feed(cmd, will, optLines)
	if err := b.set(mode.Edit | mode.Soft); err != nil || b.is.Hub().Head() != 9 || b.is.Hub().Waits() != 1 {
		t.Errorf("%v, %d, %d", err, b.is.Hub().Head(), b.is.Hub().Waits())
	}
	if notes := b.hears(optLines, 1, mode.Edit|mode.Ack); len(notes) != 0 || b.is.Hub().Head() != 1 || b.is.Hub().Waits() != 0 {
		t.Errorf("%v, %d, %d", notes, b.is.Hub().Head(), b.is.Hub().Waits())
	}
	b.holdAll()
}

// P20.1: what is said, written down, not raw and raw; one piece, if there are bytes.
func TestSay(t *testing.T) {
	for _, row := range []struct {
		said, sent, raw string
	}{
		{"a", "a", "a"},
		{"abc", "abc", "abc"},
		{"\r", "\r\x00", "\r"},
		{"\ra", "\r\x00a", "\ra"},
		{"\r\n", "\r\n", "\r\n"},
		{"\r\r\n", "\r\x00\r\n", "\r\r\n"},
		{"\r\x00", "\r\x00\x00", "\r\x00"},
		{"\n", "\n", "\n"},
		{"\xff", "\xff\xff", "\xff\xff"},
		{"\xff\xff\r\xff", "\xff\xff\xff\xff\r\x00\xff\xff", "\xff\xff\xff\xff\r\xff\xff"},
		{"\xff\xfd\x01", "\xff\xff\xfd\x01", "\xff\xff\xfd\x01"},
	} {
		for _, raw := range ways {
			b, want := newEnd(t, every()), row.sent
			if raw {
				want = row.raw
				b.bring(us, binary, "yes")
				b.take()
			}
			b.say([]byte(row.said)...)
			b.mustTake(piece(data, []byte(want)...))
			b.holdAll()
		}
	}
	b := newEnd(t, simple())
	b.say()
	b.is.Say(nil)
	b.is.Say([]byte{})
	b.mustTake()
	b.say('a', 13)
	b.say(10)
	b.mustTake(piece(data, 'a', 13, 0), piece(data, 10))
	for c := range 256 {
		b.say(byte(c))
	}
	b.holdAll()
}

// P20.1: what is said goes raw as long as Binary is on at Us, when it is said;
// Binary at Him has nothing to do with it.
func TestRawGoes(t *testing.T) {
	b := newEnd(t, every())
	ret, raw := piece(data, 13, 0), piece(data, 13)
	b.feed(cmd, will, binary)
	b.take()
	b.say(13)
	b.mustTake(ret)
	b.feed(cmd, do, binary)
	b.say(13)
	b.feed(cmd, dont, binary)
	b.say(13)
	b.mustTake(piece(verb, cmd, will, binary), raw, piece(verb, cmd, wont, binary), ret)
	b.ask(us, binary, true)
	b.say(13)
	b.feed(cmd, do, binary)
	b.say(13)
	b.ask(us, binary, false)
	b.say(13)
	b.mustTake(piece(verb, cmd, will, binary), ret, raw, piece(verb, cmd, wont, binary), ret)
	b.holdAll()
}

// P20.1: the plain commands, and no others.
func TestCommand(t *testing.T) {
	b := newEnd(t, every())
	for code := -3; code < 520; code++ {
		if code >= nop && code <= ga {
			if err := b.command(code); err != nil {
				t.Errorf("Command of %d: %v", code, err)
			}
			b.mustTake(piece(plain, cmd, byte(code)))
			continue
		}
		if err := b.command(code); !errors.Is(err, api.ErrKind) {
			t.Errorf("Command of %d: %v", code, err)
		}
	}
	for _, code := range far() {
		if err := b.command(code); !errors.Is(err, api.ErrKind) {
			t.Errorf("Command of %d: %v", code, err)
		}
	}
	b.mustTake()
	if heard, asked, sent := b.is.Counts(); heard != 0 || asked != 0 || sent != 0 {
		t.Errorf("Counts: %d, %d, %d", heard, asked, sent)
	}
	b.holdAll()
}

// P20.1: Take is all pieces in the order in which they came to be; then none are.
func TestTake(t *testing.T) {
	b := newEnd(t, every())
	b.say('a')
	b.command(ga)
	b.feed(cmd, ayt, cmd, do, optNaws)
	b.say('b', 'c')
	b.ask(him, sga, true)
	b.feed(cmd, do, mark)
	b.mustTake(piece(data, 'a'), piece(plain, cmd, ga), piece(plain, cmd, nop), piece(verb, cmd, will, optNaws), subPiece(optNaws, 0, cmd, cmd, cmd, cmd, 13),
		piece(data, 'b', 'c'), piece(verb, cmd, do, sga), piece(verb, cmd, will, mark))
	b.mustTake()
	b.say('d')
	b.mustTake(piece(data, 'd'))
	b.holdAll()
}

// P20.1: all verbs are counted: those that are heard when their last byte comes,
// those that are sent when they are to be.
func TestCounts(t *testing.T) {
	b := newEnd(t, agreeing([]int{echo}, nil))
	for _, row := range []struct {
		do                 func()
		heard, asked, sent int
	}{
		{func() { b.feed(cmd, do) }, 0, 0, 0},
		{func() { b.feed(echo) }, 1, 0, 1},
		{func() { b.feed(cmd, do, echo) }, 2, 0, 1},
		{func() { b.feed(cmd, will, optNameless) }, 3, 0, 2},
		{func() { b.feed(cmd, wont, 255) }, 4, 0, 2},
		{func() { b.feed(cmd, dont, mark) }, 5, 0, 2},
		{func() { b.feed(cmd, do, mark) }, 6, 0, 3},
		{func() { b.ask(him, mark, true) }, 6, 1, 4},
		{func() { b.ask(us, mark, true) }, 6, 1, 4},
		{func() { b.ask(us, echo, false) }, 6, 2, 5},
		{func() { b.ask(us, echo, true) }, 6, 3, 5},
		{func() { b.ask(us, echo, true) }, 6, 3, 5},
		{func() { b.ask(us, 256, true) }, 6, 3, 5},
		{func() { b.take() }, 6, 3, 5},
		{func() { b.feed(cmd, dont, echo) }, 7, 3, 6},
		{func() { b.feed(cmd, ayt, cmd, nop); b.hears(echo); b.say('a') }, 7, 3, 6},
	} {
		row.do()
		if heard, asked, sent := b.is.Counts(); heard != row.heard || asked != row.asked || sent != row.sent {
			t.Errorf("Counts: %d, %d, %d, not %d, %d, %d", heard, asked, sent, row.heard, row.asked, row.sent)
		}
	}
	b.holdAll()
}

// P20.1: pieces' bytes, whatever they are.
func TestBytes(t *testing.T) {
	for _, row := range []struct {
		list []end.Piece
		want string
	}{
		{nil, ""},
		{[]end.Piece{}, ""},
		{[]end.Piece{{}}, ""},
		{[]end.Piece{piece(data, 'a')}, "a"},
		{[]end.Piece{piece(data, 'a', 'b'), piece(9), piece(-1, cmd), piece(0, 'c')}, "ab\xffc"},
		{[]end.Piece{piece(verb, cmd, do, 1), piece(sub, 1, 2), piece(verb, cmd, do, 1)}, "\xff\xfd\x01\x01\x02\xff\xfd\x01"},
	} {
		if b := end.Bytes(row.list); string(b) != row.want {
			t.Errorf("Bytes of %v: %v", row.list, b)
		}
	}
}

// scribble writes over a list of bytes, and the room behind it.
func scribble(b []byte) {
	b = b[:cap(b)]
	for i := range b {
		b[i] = 'X'
	}
}

// roomy is a list with room behind it.
func roomy[T any](list ...T) []T { return append(make([]T, 0, len(list)+8), list...) }

// What is given stays as it was, with the room behind it, and can be written over.
func TestGiven(t *testing.T) {
	policy, types, holds := roomy(binary, echo), roomy("vt100", "ansi"), roomy(slc.Setting{Level: slc.Value, Value: 3})
	c := agreeing(policy, policy)
	c.Hub.Types, c.Hub.Holds = types, holds
	e, err := end.New(c)
	if err != nil {
		t.Fatal(err)
	}
	if !slices.Equal(policy[:10], []int{0, 1, 0, 0, 0, 0, 0, 0, 0, 0}) || types[:3][2] != "" || holds[:2][1] != (slc.Setting{}) {
		t.Error("New has written")
	}
	b := &both{t: t, is: e, m: newModel(t, c)}
	policy[0], policy[1], types[0], holds[0] = optLines, 99, "XXXXX", slc.Setting{}
	b.feed(cmd, do, binary, cmd, will, echo, cmd, do, optLines)
	b.ask(us, optTtype, true)
	b.ask(us, optLines, true)
	b.feed(cmd, do, optTtype, cmd, do, optLines)
	b.hears(optTtype, 1)
	b.holdAll()

	said := roomy[byte](13, 13, cmd)
	e.Say(said)
	b.m.say(slices.Clone(said))
	if !bytes.Equal(said[:11], []byte{13, 13, cmd, 0, 0, 0, 0, 0, 0, 0, 0}) {
		t.Errorf("Say has written: %v", said[:11])
	}
	scribble(said)
	b.holdAll()

	list := []end.Piece{{Kind: data, Bytes: roomy[byte]('a')}, {Kind: data, Bytes: roomy[byte]('b')}}
	all := end.Bytes(list)
	if list[0].Bytes[:2][1] != 0 || string(all) != "ab" {
		t.Errorf("Bytes has written: %v, %q", list, all)
	}
	scribble(all)
	if list[0].Bytes[0] != 'a' || list[1].Bytes[0] != 'b' {
		t.Error("Bytes shares")
	}
	one := end.Bytes(list[:1])
	scribble(one)
	if list[0].Bytes[0] != 'a' {
		t.Error("Bytes of one shares")
	}
}

// What is answered is the caller's: writing over it changes nothing else.
func TestAnswered(t *testing.T) {
	b := newEnd(t, every())
	for range 3 {
		b.feed(cmd, do, optTtype, cmd, do, optNaws, cmd, will, optTtype)
		came, notes := b.is.Feed('a', false)
		b.m.feed('a', false)
		scribble(came)
		if len(notes) != 0 {
			t.Error(notes)
		}
		b.feed(cmd)
		_, notes = b.is.Feed(ayt, false)
		b.m.feed(ayt, false)
		for i := range notes[:cap(notes)] {
			notes[:cap(notes)][i] = end.Note{Kind: 9}
		}
		b.hears(optTtype, 1)
		b.say('x', 13)
		notes, _ = b.is.Ask(us, optNaws, false)
		b.m.ask(us, optNaws, false)
		for i := range notes[:cap(notes)] {
			notes[:cap(notes)][i] = end.Note{Kind: 9}
		}
		list := b.take()
		for i, p := range list {
			next := append([]byte(nil), list[(i+1)%len(list)].Bytes...)
			scribble(p.Bytes)
			if len(list) > 1 && !bytes.Equal(next, list[(i+1)%len(list)].Bytes) && i+1 < len(list) {
				t.Errorf("two pieces share: %v", list)
			}
		}
		for i := range list[:cap(list)] {
			list[:cap(list)][i] = end.Piece{Kind: 9, Bytes: []byte("XXX")}
		}
		b.wire = nil
		b.say('y')
		b.mustTake(piece(data, 'y'))
		b.feed(cmd, dont, optNaws)
		b.feed(cmd, dont, optTtype, cmd, wont, optTtype)
		b.take()
		b.wire = nil
	}
}

// Two ends are apart.
func TestApart(t *testing.T) {
	c := every()
	a, b := newEnd(t, c), newEnd(t, c)
	a.feed(cmd, do, optTtype, cmd, will, binary, cmd, sb, 1)
	a.byte('x', true)
	a.say('a')
	b.holdAll()
	b.feed('a', 13, 0, cmd)
	b.ask(us, echo, true)
	a.feed(cmd, se, 'b')
	a.holdAll()
	b.holdAll()
}

// The zero End does nothing that would end the program.
func TestZero(t *testing.T) {
	var e end.End
	for _, c := range join([]byte{'a', 13, 0, cmd, ayt, cmd, do, optNaws, cmd, will, optTtype, cmd, do, optLines}, subBytes(optTtype, 1), subBytes(optLines, 1, 1)) {
		e.Feed(c, c == 13)
	}
	for _, option := range []int{optNaws, optTtype, optLines, optStatus, mark} {
		for _, side := range sides {
			e.Ask(side, option, true)
		}
	}
	for _, c := range []byte{optNaws, optTtype, optLines, optStatus} {
		for _, x := range join([]byte{cmd, do, c, cmd, will, c}, subBytes(c, 1), subBytes(c, 1, 1), subBytes(c, 3, 1, 2, 3)) {
			e.Feed(x, false)
		}
	}
	e.Set(1)
	e.Say([]byte("a"))
	e.Command(nop)
	e.Take()
	e.Hub().Types()
}

// act is a call, by its words.
type act struct {
	words string
	do    func(b *both)
}

// acts is the calls of which all orders are gone through.
func acts() []act {
	feeds := func(list ...byte) func(b *both) { return func(b *both) { b.feed(list...) } }
	return []act{
		{"do naws", feeds(cmd, do, optNaws)},
		{"dont naws", feeds(cmd, dont, optNaws)},
		{"ask naws", func(b *both) { b.ask(us, optNaws, true) }},
		{"ask naws off", func(b *both) { b.ask(us, optNaws, false) }},
		{"will binary", feeds(cmd, will, binary)},
		{"wont binary", feeds(cmd, wont, binary)},
		{"ask binary", func(b *both) { b.ask(him, binary, true) }},
		{"ask binary off", func(b *both) { b.ask(him, binary, false) }},
		{"do binary", feeds(cmd, do, binary)},
		{"say", func(b *both) { b.say(13) }},
		{"13", feeds(13)},
		{"0", feeds(0)},
		{"255", feeds(cmd)},
		{"a mark", func(b *both) { b.byte('u', true) }},
		{"dm", feeds(cmd, dm)},
		{"ayt", feeds(cmd, ayt)},
		{"do mark", feeds(cmd, do, mark)},
		{"begin", feeds(cmd, sb, optTtype, 1)},
		{"end", feeds(cmd, se)},
		{"do ttype", feeds(cmd, do, optTtype)},
		{"will lines", feeds(cmd, will, optLines)},
		{"set", func(b *both) { b.set(mode.Edit) }},
		{"take", func(b *both) { b.take() }},
	}
}

// P20.1, P20.2: every three calls, in every order, behind one another.
func TestOrders(t *testing.T) {
	list := acts()
	for _, x := range list {
		for _, y := range list {
			for _, z := range list {
				b := newEnd(t, every())
				x.do(b)
				y.do(b)
				z.do(b)
				b.holdWireAndStates(x.words + ", " + y.words + ", " + z.words)
			}
		}
	}
}

// holdWireAndStates holds what the acts can change.
func (b *both) holdWireAndStates(acts string) {
	b.t.Helper()
	for _, side := range sides {
		for _, option := range []int{binary, mark, optTtype, optNaws, optLines} {
			b.holdOption(side, option)
		}
	}
	if b.is.Calm() != b.m.calm() {
		b.t.Fatalf("%s: Calm: %v", acts, b.is.Calm())
	}
	b.take()
	b.holdWire()
}

// chanceBytes is bytes by chance, of which many begin a token.
func chanceBytes(r *rand.Rand, n int) []byte {
	often := []byte{cmd, cmd, cmd, sb, se, will, wont, do, dont, dm, ayt, nop, 0, 0, 10, 13, 13, 1, 3, 5, 6, 24, 31, 34, 'a'}
	list := make([]byte, n)
	for i := range list {
		if r.Intn(8) == 0 {
			list[i] = byte(r.Intn(256))
		} else {
			list[i] = often[r.Intn(len(often))]
		}
	}
	return list
}

// chanceToken is a token's bytes by chance.
func chanceToken(r *rand.Rand) []byte {
	option := []byte{binary, echo, optStatus, mark, optTtype, optNaws, optLines, byte(r.Intn(256))}[r.Intn(8)]
	switch r.Intn(5) {
	case 0:
		return []byte{13, 0, 'a', cmd, cmd, 13, 10}[r.Intn(4):]
	case 1:
		return []byte{cmd, []byte{nop, dm, ayt, ga, se, 7}[r.Intn(6)]}
	case 2, 3:
		return []byte{cmd, verbs[r.Intn(4)], option}
	}
	bodies := [][]byte{{1}, {0, 'a'}, {0, 'b'}, {0, 80, 0, 24}, {0, do, 1}, {1, 1}, {1, 5}, {3, 1, 2, 3}, {3, 3, 2, cmd, cmd}, {do, 2, 1}, {dont, 2}, {}}
	return subBytes(option, bodies[r.Intn(len(bodies))]...)
}

// P20.1, P20.2: calls by chance.
func TestChance(t *testing.T) {
	r := rand.New(rand.NewSource(20))
	for range 400 {
		c := every()
		if r.Intn(3) == 0 {
			c.Policy = table.Policy{Us: []int{binary, optTtype, optLines}, Him: []int{echo, optNaws, optLines}}
		}
		b := newEnd(t, c)
		for range 150 {
			b.chance(r)
		}
		b.holdAll()
	}
}

// chance is a call by chance.
func (b *both) chance(r *rand.Rand) {
	b.t.Helper()
	option := []int{binary, echo, mark, optTtype, optNaws, optLines, r.Intn(260) - 2}[r.Intn(7)]
	switch r.Intn(12) {
	case 0, 1:
		for _, c := range chanceBytes(r, r.Intn(9)) {
			b.byte(c, r.Intn(20) == 0)
		}
	case 2, 3, 4, 5:
		for _, c := range chanceToken(r) {
			b.byte(c, r.Intn(60) == 0)
		}
	case 6, 7:
		b.ask(r.Intn(2), option, r.Intn(2) == 0)
	case 8:
		b.ask(r.Intn(4)-1, option, r.Intn(2) == 0)
	case 9:
		b.set(r.Intn(34) - 1)
	case 10:
		b.say(chanceBytes(r, r.Intn(5))...)
	case 11:
		if r.Intn(2) == 0 {
			b.command(238 + r.Intn(18))
		} else {
			b.take()
		}
	}
}
