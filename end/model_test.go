package end_test

import (
	"bytes"
	"errors"
	"fmt"
	"slices"
	"strings"
	"testing"

	"truchman/api"
	"truchman/end"
	"truchman/gram"
	"truchman/iac"
	"truchman/qstate"
	"truchman/slc"
	"truchman/subneg"
	"truchman/table"
)

// Sides, commands, options and kinds of tokens by their numbers, as layers 11,
// 4 and 5 have them.
const (
	us, him                                  = 0, 1
	se, nop, dm, ayt, ga, sb                 = 240, 241, 242, 246, 249, 250
	will, wont, do, dont, cmd                = 251, 252, 253, 254, 255
	binary, echo, sga, optStatus, mark       = 0, 1, 3, 5, 6
	optTtype, optNaws, optLines, optNameless = 24, 31, 34, 77
	tokenSub                                 = 4
)

// Kinds of pieces and of notes, as the chapter tells them.
const (
	data, plain, verb, sub                  = 1, 2, 3, 4
	command, marked, turned, wrong, dropped = 1, 2, 3, 4, 5
)

// The verbs, what may be asked for, and the sides.
var (
	verbs = []byte{will, wont, do, dont}
	ways  = []bool{true, false}
	sides = []int{us, him}
)

// model is what an end should hold, told plainly. The hub is layer 18's own, with
// a table of layer 11 for it; all else is written down here.
type model struct {
	agrees  [2]map[int]bool
	words   [2]map[int]string // the states that aren't no
	begun   []byte            // of a token that hasn't ended
	deaf    bool
	behind  bool // a 13 that came not raw was the last byte of data
	table   *table.Table
	hub     *subneg.Hub
	waiting []end.Piece
	heard   int
	asked   int
	sent    int
}

// newModel is what an end of such a Config should hold at first.
func newModel(t *testing.T, c end.Config) *model {
	t.Helper()
	m := &model{table: table.New(c.Policy)}
	for side, list := range [][]int{c.Policy.Us, c.Policy.Him} {
		m.agrees[side], m.words[side] = map[int]bool{}, map[int]string{}
		for _, option := range list {
			m.agrees[side][option] = true
		}
	}
	hub, err := subneg.New(c.Hub)
	if err != nil {
		t.Fatal(err)
	}
	m.hub = hub
	return m
}

// word is the word of a side's state of an option.
func (m *model) word(side, option int) string {
	if side != us && side != him {
		return "no"
	}
	if word := m.words[side][option]; word != "" {
		return word
	}
	return "no"
}

// on is whether an option should be on at a side.
func (m *model) on(side, option int) bool { return m.word(side, option) == "yes" }

// calm is whether nothing should be wanted.
func (m *model) calm() bool {
	for _, words := range m.words {
		for _, word := range words {
			if word != "yes" && word != "no" {
				return false
			}
		}
	}
	return true
}

// stateOf is the state that has a word.
func stateOf(word string) qstate.State {
	kind, opposite := strings.CutSuffix(word, "!")
	return qstate.State{Kind: slices.Index([]string{"no", "yes", "wantno", "wantyes"}, kind), Opposite: opposite}
}

// doubled is bytes, each 255 of them two times.
func doubled(b []byte) []byte { return bytes.ReplaceAll(b, []byte{cmd}, []byte{cmd, cmd}) }

// send lets bytes wait.
func (m *model) send(kind int, b ...byte) {
	m.waiting = append(m.waiting, end.Piece{Kind: kind, Bytes: b})
}

func (m *model) sendVerb(code byte, option int) {
	m.sent++
	m.send(verb, cmd, code, byte(option))
}

func (m *model) sendSubs(list []subneg.Sub) {
	for _, x := range list {
		b := append([]byte{cmd, sb, byte(x.Option)}, doubled(x.Body)...)
		m.send(sub, append(b, cmd, se)...)
	}
}

// token is the token that ends with a byte, if one does.
func (m *model) token(c byte) (iac.Token, bool) {
	m.begun = append(m.begun, c)
	x, is := whole(m.begun)
	if is {
		m.begun = nil
	}
	return x, is
}

// whole is the token that a row is.
func whole(b []byte) (iac.Token, bool) {
	n := len(b)
	switch {
	case b[0] != cmd:
		return iac.Token{Kind: 1, Code: int(b[0])}, true
	case n == 1:
		return iac.Token{}, false
	case b[1] == cmd:
		return iac.Token{Kind: 1, Code: cmd}, true
	case slices.Contains(verbs, b[1]) && n == 3:
		return iac.Token{Kind: 3, Code: int(b[1]), Option: int(b[2])}, true
	case slices.Contains(verbs, b[1]) || b[1] == sb && n < 5:
		return iac.Token{}, false
	case b[1] != sb:
		return iac.Token{Kind: 2, Code: int(b[1])}, true
	}
	return wholeSub(int(b[2]), b[3:])
}

// wholeSub is the token of an option and what follows it.
func wholeSub(option int, b []byte) (iac.Token, bool) {
	var body []byte
	for i := 0; i < len(b); i++ {
		switch {
		case b[i] != cmd:
			body = append(body, b[i])
		case i+1 == len(b):
			return iac.Token{}, false
		case b[i+1] == cmd:
			body = append(body, cmd)
			i++
		case b[i+1] == se:
			n := min(len(body), 256)
			return iac.Token{Kind: tokenSub, Option: option, Body: body[:n], Cut: n < len(body)}, true
		default:
			return iac.Token{Kind: 5, Option: option, Code: int(b[i+1])}, true
		}
	}
	return iac.Token{}, false
}

// feed is what Feed should answer.
func (m *model) feed(c byte, urgent bool) ([]byte, []end.Note) {
	raw := m.on(him, binary)
	m.deaf = m.deaf || urgent
	x, is := m.token(c)
	if !is {
		return nil, nil
	}
	switch x.Kind {
	case 1:
		return m.comesIn(byte(x.Code), raw), nil
	case 2:
		if x.Code == dm {
			m.deaf = false
		}
		if x.Code == ayt {
			m.send(plain, cmd, nop)
		}
		return nil, []end.Note{{Kind: command, Code: x.Code}}
	case 3:
		m.heard++
		return nil, m.hearVerb(x.Code, x.Option)
	case tokenSub:
		if told, err := m.hub.Hear(m.table, x); err == nil {
			m.sendSubs(told)
			return nil, nil
		}
	}
	return nil, []end.Note{{Kind: dropped, Option: x.Option}}
}

// comesIn is what is left of a byte of data.
func (m *model) comesIn(c byte, raw bool) []byte {
	if m.deaf {
		return nil
	}
	out := m.behind && c == 0 && !raw
	m.behind = c == 13 && !raw
	if out {
		return nil
	}
	return []byte{c}
}

// hearVerb is the notes that should come of a verb.
func (m *model) hearVerb(code, option int) []end.Note {
	if option == mark {
		if code == do {
			m.sendVerb(will, mark)
		}
		return []end.Note{{Kind: marked, Code: code}}
	}
	m.table.Hear(code, option)
	side, is, answers := us, code == will || code == do, [2]byte{will, wont}
	if code == will || code == wont {
		side, answers = him, [2]byte{do, dont}
	}
	was := m.word(side, option)
	behind, send, bad := hears(was, is, m.agrees[side][option])
	m.words[side][option] = behind
	switch send {
	case "for":
		m.sendVerb(answers[0], option)
	case "against":
		m.sendVerb(answers[1], option)
	}
	var notes []end.Note
	if (was == "yes") != (behind == "yes") {
		notes = append(notes, m.turn(side, option))
	}
	if bad {
		notes = append(notes, end.Note{Kind: wrong, Side: side, Option: option})
	}
	return notes
}

// turn is the note of an option that turned.
func (m *model) turn(side, option int) end.Note {
	on := m.on(side, option)
	m.sendSubs(m.hub.Turned(side, option, on))
	return end.Note{Kind: turned, Side: side, Option: option, On: on}
}

// hears is chapter 10's table of verbs, written down: the state behind, what is
// sent, and whether the verb was wrong.
func hears(word string, is, agree bool) (behind, send string, bad bool) {
	switch {
	case word == "no" && is && agree:
		return "yes", "for", false
	case word == "no" && is:
		return "no", "against", false
	case word == "yes" && !is:
		return "no", "against", false
	case word == "wantno" && is:
		return "no", "", true
	case word == "wantno!" && is:
		return "yes", "", true
	case word == "wantno!":
		return "wantyes", "for", false
	case word == "wantyes" && is:
		return "yes", "", false
	case word == "wantyes!" && is:
		return "wantno", "against", false
	case word == "yes":
		return "yes", "", false
	}
	return "no", "", false
}

// asks is chapter 10's table of asking, written down: the state behind, and
// whether something is sent; no word where nothing can be asked for.
func asks(word string, on bool) (behind string, sends bool) {
	switch {
	case word == "no" && on:
		return "wantyes", true
	case word == "yes" && !on:
		return "wantno", true
	case word == "wantno" && on:
		return "wantno!", false
	case word == "wantno!" && !on:
		return "wantno", false
	case word == "wantyes" && !on:
		return "wantyes!", false
	case word == "wantyes!" && on:
		return "wantyes", false
	}
	return "", false
}

// ask is what Ask should answer.
func (m *model) ask(side, option int, on bool) ([]end.Note, error) {
	switch {
	case option == mark && (side != him || !on):
		return nil, api.ErrKind
	case option == mark:
		m.asked++
		m.sendVerb(do, mark)
		return nil, nil
	case side != us && side != him:
		return nil, api.ErrKind
	case option < 0 || option > 255:
		return nil, api.ErrRange
	}
	was := m.word(side, option)
	behind, sends := asks(was, on)
	if behind == "" {
		return nil, api.ErrState
	}
	m.asked++
	m.table.Ask(side, option, on)
	m.words[side][option] = behind
	if sends {
		m.sendVerb(map[bool][2]byte{true: {will, do}, false: {wont, dont}}[on][side], option)
	}
	if was != "yes" {
		return nil, nil
	}
	return []end.Note{m.turn(side, option)}, nil
}

// set is what Set should answer.
func (m *model) set(n int) error {
	x, err := m.hub.Set(m.table, n)
	if err == nil {
		m.sendSubs([]subneg.Sub{x})
	}
	return err
}

// say says data.
func (m *model) say(b []byte) {
	var out []byte
	for i, c := range b {
		out = append(out, c)
		if c == 13 && !m.on(us, binary) && !bytes.HasPrefix(b[i+1:], []byte{10}) {
			out = append(out, 0)
		}
	}
	if len(b) > 0 {
		m.send(data, doubled(out)...)
	}
}

// command is what Command should answer.
func (m *model) command(code int) error {
	if code < nop || code > ga {
		return api.ErrKind
	}
	m.send(plain, cmd, byte(code))
	return nil
}

// take is what Take should answer.
func (m *model) take() []end.Piece {
	list := m.waiting
	m.waiting = nil
	return list
}

// both is an end, and what it should be; wire is all that was taken.
type both struct {
	t    *testing.T
	is   *end.End
	m    *model
	wire []end.Piece
}

// newEnd is an end on which nothing has happened, and its model.
func newEnd(t *testing.T, c end.Config) *both {
	t.Helper()
	e, err := end.New(c)
	if err != nil {
		t.Fatal(err)
	}
	return &both{t: t, is: e, m: newModel(t, c)}
}

// byte feeds a byte.
func (b *both) byte(c byte, urgent bool) ([]byte, []end.Note) {
	b.t.Helper()
	came, notes := b.is.Feed(c, urgent)
	wantCame, wantNotes := b.m.feed(c, urgent)
	if !bytes.Equal(came, wantCame) || !slices.Equal(notes, wantNotes) {
		b.t.Fatalf("Feed of %d, %v: %v, %v, not %v, %v", c, urgent, came, notes, wantCame, wantNotes)
	}
	b.hold()
	return came, notes
}

// feed feeds bytes without marks.
func (b *both) feed(list ...byte) (came []byte, notes []end.Note) {
	b.t.Helper()
	for _, c := range list {
		x, n := b.byte(c, false)
		came, notes = append(came, x...), append(notes, n...)
	}
	return came, notes
}

// hears feeds a subnegotiation.
func (b *both) hears(option byte, body ...byte) []end.Note {
	b.t.Helper()
	list := append([]byte{cmd, sb, option}, doubled(body)...)
	_, notes := b.feed(append(list, cmd, se)...)
	return notes
}

// ask asks for an option.
func (b *both) ask(side, option int, on bool) ([]end.Note, error) {
	b.t.Helper()
	notes, err := b.is.Ask(side, option, on)
	wantNotes, want := b.m.ask(side, option, on)
	if !slices.Equal(notes, wantNotes) || !same(err, want) {
		b.t.Fatalf("Ask of %d, %d, %v: %v, %v, not %v, %v", side, option, on, notes, err, wantNotes, want)
	}
	b.hold()
	b.holdOption(side, option)
	return notes, err
}

// set sets a mask.
func (b *both) set(n int) error {
	b.t.Helper()
	err := b.is.Set(n)
	if want := b.m.set(n); !same(err, want) {
		b.t.Fatalf("Set of %d: %v, not %v", n, err, want)
	}
	b.hold()
	return err
}

// say says data.
func (b *both) say(list ...byte) {
	b.t.Helper()
	b.is.Say(list)
	b.m.say(list)
	b.hold()
}

// command lets a command be sent.
func (b *both) command(code int) error {
	b.t.Helper()
	err := b.is.Command(code)
	if want := b.m.command(code); !same(err, want) {
		b.t.Fatalf("Command of %d: %v, not %v", code, err, want)
	}
	b.hold()
	return err
}

// take takes all pieces.
func (b *both) take() []end.Piece {
	b.t.Helper()
	list := b.is.Take()
	want := b.m.take()
	if !samePieces(list, want) {
		b.t.Fatalf("Take: %v, not %v", list, want)
	}
	b.wire = append(b.wire, list...)
	b.hold()
	return list
}

// hold holds what is soon asked.
func (b *both) hold() {
	b.t.Helper()
	heard, asked, sent := b.is.Counts()
	if heard != b.m.heard || asked != b.m.asked || sent != b.m.sent {
		b.t.Fatalf("Counts: %d, %d, %d, not %d, %d, %d", heard, asked, sent, b.m.heard, b.m.asked, b.m.sent)
	}
	if sent > heard+asked {
		b.t.Fatalf("%d verbs were sent, of %d and %d", sent, heard, asked)
	}
	if b.is.Deaf() != b.m.deaf {
		b.t.Fatalf("Deaf: %v", b.is.Deaf())
	}
}

// holdOption holds an option at a side.
func (b *both) holdOption(side, option int) {
	b.t.Helper()
	if x, want := b.is.State(side, option), stateOf(b.m.word(side, option)); x != want {
		b.t.Fatalf("State of %d, %d: %v, not %v", side, option, x, want)
	}
	if x, want := b.is.On(side, option), b.m.on(side, option); x != want {
		b.t.Fatalf("On of %d, %d: %v, not %v", side, option, x, want)
	}
}

// holdAll holds all that can be asked, and takes the pieces.
func (b *both) holdAll() {
	b.t.Helper()
	for side := -1; side <= 2; side++ {
		for option := -2; option < 259; option++ {
			b.holdOption(side, option)
		}
	}
	if b.is.Calm() != b.m.calm() {
		b.t.Fatalf("Calm: %v", b.is.Calm())
	}
	if is, want := hubOf(b.is.Hub()), hubOf(b.m.hub); is != want {
		b.t.Fatalf("the hub is %s, not %s", is, want)
	}
	b.take()
	b.holdWire()
}

// hubOf is all that a hub answers, as a line.
func hubOf(h *subneg.Hub) string {
	var chars []slc.Setting
	for f := range slc.Functions + 2 {
		chars = append(chars, h.Char(f))
	}
	m, is := h.Mask()
	return fmt.Sprint(h.Peer(), h.Types(), h.Report(), h.Head(), h.Tail(), chars, m.Bytes(), is, h.Waits())
}

// same is whether two errors are one.
func same(err, want error) bool {
	if want == nil {
		return err == nil
	}
	return errors.Is(err, want)
}

// samePieces is whether two lists of pieces are the same.
func samePieces(a, b []end.Piece) bool {
	return slices.EqualFunc(a, b, func(x, y end.Piece) bool { return x.Kind == y.Kind && bytes.Equal(x.Bytes, y.Bytes) })
}

// holdWire holds all that was taken: it is of layer 7's grammar, raw and not, each
// piece is one item of its kind, or data, and the verbs are those that are counted.
func (b *both) holdWire() {
	b.t.Helper()
	all := end.Bytes(b.wire)
	for _, raw := range ways {
		if _, err := gram.Parse(all, raw); err != nil {
			b.t.Fatalf("%v, raw %v: %v", all, raw, err)
		}
	}
	if n := gram.Rest(all, true); n != 0 {
		b.t.Fatalf("%v: %d are left", all, n)
	}
	count := 0
	for _, p := range b.wire {
		items, err := gram.Parse(p.Bytes, true)
		if err != nil || len(items) == 0 || gram.Rest(p.Bytes, true) != 0 {
			b.t.Fatalf("the piece %v: %v, %v", p, items, err)
		}
		for _, x := range items {
			if kind := map[int]int{gram.Byte: data, gram.Plain: plain, gram.Verb: verb, gram.Sub: sub}[x.Kind]; kind != p.Kind || kind != data && len(items) != 1 {
				b.t.Fatalf("the piece %v: %v", p, items)
			}
		}
		if p.Kind == verb {
			count++
		}
	}
	if _, _, sent := b.is.Counts(); count != sent {
		b.t.Fatalf("%d verbs were taken, and %d sent", count, sent)
	}
}
