package table_test

import (
	"errors"
	"fmt"
	"math"
	"math/rand"
	"slices"
	"strings"
	"testing"

	"truchman/api"
	"truchman/qstate"
	"truchman/table"
)

// Sides and verbs, by numbers.
const (
	us, him              = 0, 1
	will, wont, do, dont = 251, 252, 253, 254
	all                  = 256 // how many options there are
)

// ways is both answers to what is asked of a call: for or against, agreed or
// not, on or off.
var ways = []bool{true, false}

// words has the states that are right.
var words = []string{"no", "yes", "wantno", "wantno!", "wantyes", "wantyes!"}

// stateOf is the state that has a word.
func stateOf(word string) qstate.State {
	kind, opposite := strings.CutSuffix(word, "!")
	return qstate.State{Kind: slices.Index([]string{"no", "yes", "wantno", "wantyes"}, kind), Opposite: opposite}
}

// move is what comes of a verb, or of asking: the state's word behind it, what
// is sent (for, against, or nothing), and whether it was wrong.
type move struct {
	behind, send string
	wrong        bool
}

// hear is chapter 10's table of verbs, written down.
func hear(word string, is, agree bool) move {
	switch {
	case word == "no" && is && agree:
		return move{"yes", "for", false}
	case word == "no" && is:
		return move{"no", "against", false}
	case word == "no":
		return move{"no", "", false}
	case word == "yes" && is:
		return move{"yes", "", false}
	case word == "yes":
		return move{"no", "against", false}
	case word == "wantno" && is:
		return move{"no", "", true}
	case word == "wantno":
		return move{"no", "", false}
	case word == "wantno!" && is:
		return move{"yes", "", true}
	case word == "wantno!":
		return move{"wantyes", "for", false}
	case word == "wantyes" && is:
		return move{"yes", "", false}
	case word == "wantyes":
		return move{"no", "", false}
	case word == "wantyes!" && is:
		return move{"wantno", "against", false}
	case word == "wantyes!":
		return move{"no", "", false}
	}
	panic(word)
}

// ask is chapter 10's table of asking, written down; false where it has
// ErrState.
func ask(word string, on bool) (move, bool) {
	if on {
		switch word {
		case "no":
			return move{"wantyes", "for", false}, true
		case "wantno":
			return move{"wantno!", "", false}, true
		case "wantyes!":
			return move{"wantyes", "", false}, true
		}
		return move{}, false
	}
	switch word {
	case "yes":
		return move{"wantno", "against", false}, true
	case "wantno!":
		return move{"wantno", "", false}, true
	case "wantyes":
		return move{"wantyes!", "", false}, true
	}
	return move{}, false
}

// heardAs is of which side a verb speaks, heard, and whether it is for the
// option.
func heardAs(verb int) (side int, is bool) {
	switch verb {
	case will:
		return him, true
	case wont:
		return him, false
	case do:
		return us, true
	case dont:
		return us, false
	}
	panic(verb)
}

// sentAs is the verb that is sent of a side.
func sentAs(side int, send string) int {
	switch {
	case send == "":
		return 0
	case side == us && send == "for":
		return will
	case side == us:
		return wont
	case send == "for":
		return do
	}
	return dont
}

// model is what a Table should hold.
type model struct {
	agreed             [2][all]bool
	words              [2][all]string
	heard, asked, sent int
}

func newModel(p table.Policy) *model {
	m := &model{}
	for option := range all {
		m.words[us][option], m.words[him][option] = "no", "no"
		m.agreed[us][option] = slices.Contains(p.Us, option)
		m.agreed[him][option] = slices.Contains(p.Him, option)
	}
	return m
}

func (m *model) hear(verb, option int) (table.Heard, error) {
	if verb != will && verb != wont && verb != do && verb != dont {
		return table.Heard{}, api.ErrKind
	}
	if option < 0 || option > 255 {
		return table.Heard{}, api.ErrRange
	}
	side, is := heardAs(verb)
	was := m.words[side][option]
	x := hear(was, is, m.agreed[side][option])
	m.heard++
	turned := was != x.behind && (was == "yes" || x.behind == "yes")
	return table.Heard{Side: side, Verb: m.done(side, option, x), Turned: turned, Wrong: x.wrong}, nil
}

func (m *model) ask(side, option int, on bool) (int, error) {
	if side != us && side != him {
		return 0, api.ErrKind
	}
	if option < 0 || option > 255 {
		return 0, api.ErrRange
	}
	x, is := ask(m.words[side][option], on)
	if !is {
		return 0, api.ErrState
	}
	m.asked++
	return m.done(side, option, x), nil
}

func (m *model) done(side, option int, x move) int {
	m.words[side][option] = x.behind
	verb := sentAs(side, x.send)
	if verb != 0 {
		m.sent++
	}
	return verb
}

// calm tells whether each word is yes or no.
func (m *model) calm() bool {
	for _, list := range m.words {
		for _, word := range list {
			if word != "no" && word != "yes" {
				return false
			}
		}
	}
	return true
}

// list is all options of a side that have the word yes.
func (m *model) list(side int) []int {
	var list []int
	for option, word := range m.words[side] {
		if word == "yes" {
			list = append(list, option)
		}
	}
	return list
}

// both is a Table, and the model of it: each call is done to both, its answers
// are held against each other, and then all that can be asked is.
type both struct {
	t     *testing.T
	is    *table.Table
	model *model
}

func newBoth(t *testing.T, p table.Policy) both {
	t.Helper()
	is := table.New(p)
	if is == nil {
		t.Fatalf("New(%v): none", p)
	}
	b := both{t, is, newModel(p)}
	b.holds()
	return b
}

func (b both) hear(verb, option int) table.Heard {
	b.t.Helper()
	got, err := b.is.Hear(verb, option)
	want, wrong := b.model.hear(verb, option)
	if got != want || !errors.Is(err, wrong) {
		b.t.Fatalf("Hear(%d, %d): %+v, %v, not %+v, %v", verb, option, got, err, want, wrong)
	}
	b.holds()
	return got
}

func (b both) ask(side, option int, on bool) int {
	b.t.Helper()
	got, err := b.is.Ask(side, option, on)
	want, wrong := b.model.ask(side, option, on)
	if got != want || !errors.Is(err, wrong) {
		b.t.Fatalf("Ask(%d, %d, %v): %d, %v, not %d, %v", side, option, on, got, err, want, wrong)
	}
	b.holds()
	return got
}

// holds holds all that can be asked of a table against the model, and P11.2's
// numbers.
func (b both) holds() {
	b.t.Helper()
	for side := range 2 {
		for option := range all {
			word := b.model.words[side][option]
			if got := b.is.State(side, option); got != stateOf(word) {
				b.t.Fatalf("State(%d, %d): %+v, not %s", side, option, got, word)
			}
			if got := b.is.On(side, option); got != (word == "yes") {
				b.t.Fatalf("On(%d, %d): %v of %s", side, option, got, word)
			}
		}
		if got, want := b.is.List(side), b.model.list(side); !slices.Equal(got, want) {
			b.t.Fatalf("List(%d): %v, not %v", side, got, want)
		}
	}
	if got, want := b.is.Calm(), b.model.calm(); got != want {
		b.t.Fatalf("Calm: %v, not %v", got, want)
	}
	heard, asked, sent := b.is.Counts()
	if heard != b.model.heard || asked != b.model.asked || sent != b.model.sent {
		b.t.Fatalf("Counts: %d, %d, %d, not %d, %d, %d", heard, asked, sent, b.model.heard, b.model.asked, b.model.sent)
	}
	if sent > heard+asked {
		b.t.Fatalf("Counts: %d verbs are sent of %d heard and %d asked for", sent, heard, asked)
	}
}

// bring brings a side's option from No to the state of a word, whatever the
// policy: it asks for on (+) and off (-), and hears that it is on (=).
func (b both) bring(side, option int, word string) {
	b.t.Helper()
	acts := map[string]string{
		"no":       "",
		"yes":      "+=",
		"wantno":   "+=-",
		"wantno!":  "+=-+",
		"wantyes":  "+",
		"wantyes!": "+-",
	}
	for _, a := range acts[word] {
		if a == '=' {
			b.hear(verbOf(side, true), option)
			continue
		}
		b.ask(side, option, a == '+')
	}
	if got := b.model.words[side][option]; got != word {
		b.t.Fatalf("it was brought to %s, not to %s", got, word)
	}
}

// verbOf is the verb that speaks, heard, of a side, for or against.
func verbOf(side int, is bool) int {
	for _, verb := range []int{will, wont, do, dont} {
		if s, i := heardAs(verb); s == side && i == is {
			return verb
		}
	}
	panic(side)
}

// agreeing is a policy that agrees to an option on a side, or to all others of
// that side, and all of the other side.
func agreeing(side, option int, agree bool) table.Policy {
	if agree {
		return policyOf(side, []int{option}, nil)
	}
	others := slices.DeleteFunc(options(), func(n int) bool { return n == option })
	return policyOf(side, others, options())
}

// policyOf is a policy of a list for a side, and one for the other side.
func policyOf(side int, list, other []int) table.Policy {
	if side == us {
		return table.Policy{Us: list, Him: other}
	}
	return table.Policy{Us: other, Him: list}
}

// options is all options, rising.
func options() []int {
	list := make([]int, all)
	for i := range list {
		list[i] = i
	}
	return list
}

// beyond is numbers that are no options, near and far, and such as could be
// mistaken for one.
func beyond() []int {
	return []int{
		-1, -2, -24, -255, -256, -257, 256, 257, 258, 280, 511, 512, 1 << 16, 1<<16 + 24, 1 << 32, 1<<32 + 1,
		-1 << 32, -1<<32 + 1, -1<<32 + 24, math.MaxInt16, math.MinInt16, math.MaxInt32, math.MaxUint32, math.MinInt32,
		math.MaxInt, math.MaxInt - 1, math.MinInt, math.MinInt + 1,
	}
}

// noVerbs is numbers that are no verbs.
func noVerbs() []int {
	list := append(beyond(), -will, -dont, 256+will, 256+dont, 1<<32+do, -1<<32+wont)
	for n := range will {
		list = append(list, n)
	}
	return append(list, 255)
}

// noSides is numbers that are no sides.
func noSides() []int {
	return append(beyond(), 2, 3, 4, 24, 255)
}

func TestNumbers(t *testing.T) {
	if table.Us != us || table.Him != him {
		t.Errorf("Us is %d, Him is %d", table.Us, table.Him)
	}
}

func TestExample(t *testing.T) {
	x := table.New(table.Policy{Him: []int{0}})
	got, err := x.Hear(will, 0)
	if want := (table.Heard{Side: him, Verb: do, Turned: true}); got != want || err != nil {
		t.Errorf("heard WILL binary: %+v, %v", got, err)
	}
	if !x.On(table.Him, 0) || x.On(table.Us, 0) {
		t.Errorf("it is on at him: %v, at us: %v", x.On(table.Him, 0), x.On(table.Us, 0))
	}
}

// P11.1: each verb, heard of each option, in each state, agreed to and not.
func TestHear(t *testing.T) {
	for _, option := range options() {
		for _, verb := range []int{will, wont, do, dont} {
			side, _ := heardAs(verb)
			for _, agree := range ways {
				for _, word := range words {
					b := newBoth(t, agreeing(side, option, agree))
					b.bring(side, option, word)
					b.hear(verb, option)
				}
			}
		}
	}
}

// told is what a Heard says, as text, with the state behind it.
func told(x *table.Table, h table.Heard, option int) string {
	text := map[int]string{us: "us", him: "him"}[h.Side]
	text += " " + qstate.Word(x.State(h.Side, option))
	if h.Verb != 0 {
		text += " " + map[int]string{will: "will", wont: "wont", do: "do", dont: "dont"}[h.Verb]
	}
	if h.Turned {
		text += " turned"
	}
	if h.Wrong {
		text += " wrong"
	}
	return text
}

// P11.1: what is heard, by rows that are written down.
func TestHeardRows(t *testing.T) {
	for _, row := range []struct {
		word                  string
		will, refused, wont   string
		do, refusedOfUs, dont string
	}{
		{
			word: "no",
			will: "him yes do turned", refused: "him no dont", wont: "him no",
			do: "us yes will turned", refusedOfUs: "us no wont", dont: "us no",
		},
		{
			word: "yes",
			will: "him yes", refused: "him yes", wont: "him no dont turned",
			do: "us yes", refusedOfUs: "us yes", dont: "us no wont turned",
		},
		{
			word: "wantno",
			will: "him no wrong", refused: "him no wrong", wont: "him no",
			do: "us no wrong", refusedOfUs: "us no wrong", dont: "us no",
		},
		{
			word: "wantno!",
			will: "him yes turned wrong", refused: "him yes turned wrong", wont: "him wantyes do",
			do: "us yes turned wrong", refusedOfUs: "us yes turned wrong", dont: "us wantyes will",
		},
		{
			word: "wantyes",
			will: "him yes turned", refused: "him yes turned", wont: "him no",
			do: "us yes turned", refusedOfUs: "us yes turned", dont: "us no",
		},
		{
			word: "wantyes!",
			will: "him wantno dont", refused: "him wantno dont", wont: "him no",
			do: "us wantno wont", refusedOfUs: "us wantno wont", dont: "us no",
		},
	} {
		for _, c := range []struct {
			side, verb int
			agree      bool
			want       string
		}{
			{him, will, true, row.will}, {him, will, false, row.refused}, {him, wont, true, row.wont}, {him, wont, false, row.wont},
			{us, do, true, row.do}, {us, do, false, row.refusedOfUs}, {us, dont, true, row.dont}, {us, dont, false, row.dont},
		} {
			b := newBoth(t, agreeing(c.side, 24, c.agree))
			b.bring(c.side, 24, row.word)
			if got := told(b.is, b.hear(c.verb, 24), 24); got != c.want {
				t.Errorf("%s, heard %d, agreed %v: %s, not %s", row.word, c.verb, c.agree, got, c.want)
			}
		}
	}
}

// P11.1: asking on each side for each option, on and off, in each state.
func TestAsk(t *testing.T) {
	for side := range 2 {
		for _, option := range options() {
			for _, on := range ways {
				for _, word := range words {
					b := newBoth(t, agreeing(side, option, on))
					b.bring(side, option, word)
					b.ask(side, option, on)
				}
			}
		}
	}
}

// P11.1: asking, by rows that are written down: the verbs, 0 where it is asked
// for later, -1 where it can't be done.
func TestAskRows(t *testing.T) {
	for _, row := range []struct {
		word                string
		onUs, offUs         int
		onHim, offHim       int
		behindOn, behindOff string
	}{
		{"no", will, -1, do, -1, "wantyes", "no"},
		{"yes", -1, wont, -1, dont, "yes", "wantno"},
		{"wantno", 0, -1, 0, -1, "wantno!", "wantno"},
		{"wantno!", -1, 0, -1, 0, "wantno!", "wantno"},
		{"wantyes", -1, 0, -1, 0, "wantyes", "wantyes!"},
		{"wantyes!", 0, -1, 0, -1, "wantyes", "wantyes!"},
	} {
		for _, c := range []struct {
			side   int
			on     bool
			want   int
			behind string
		}{
			{us, true, row.onUs, row.behindOn}, {us, false, row.offUs, row.behindOff},
			{him, true, row.onHim, row.behindOn}, {him, false, row.offHim, row.behindOff},
		} {
			b := newBoth(t, table.Policy{})
			b.bring(c.side, 1, row.word)
			got, err := b.is.Ask(c.side, 1, c.on)
			if errors.Is(err, api.ErrState) && got == 0 {
				got = -1
			}
			if behind := qstate.Word(b.is.State(c.side, 1)); got != c.want || behind != c.behind {
				t.Errorf("%s, side %d, asked %v: %d, %v, %s, not %d, %s", row.word, c.side, c.on, got, err, behind, c.want, c.behind)
			}
		}
	}
}

// several is a table in which there is something of all.
func several(t *testing.T) both {
	t.Helper()
	b := newBoth(t, table.Policy{Us: []int{0, 3, 24}, Him: []int{1, 3, 255}})
	for i, word := range words {
		b.bring(us, 10*i, word)
		b.bring(him, 200+10*i, word)
	}
	b.hear(do, 3)
	b.hear(will, 255)
	b.hear(do, 77)
	return b
}

// P11.1: what is no verb, and what is neither side, whatever the option is;
// nothing is changed, and nothing counted.
func TestErrKind(t *testing.T) {
	b := several(t)
	for _, option := range append(beyond(), 0, 1, 3, 24, 77, 200, 255) {
		for _, verb := range noVerbs() {
			if got, err := b.is.Hear(verb, option); !errors.Is(err, api.ErrKind) || got != (table.Heard{}) {
				t.Fatalf("Hear(%d, %d): %+v, %v", verb, option, got, err)
			}
		}
		for _, side := range noSides() {
			for _, on := range ways {
				if got, err := b.is.Ask(side, option, on); !errors.Is(err, api.ErrKind) || got != 0 {
					t.Fatalf("Ask(%d, %d, %v): %d, %v", side, option, on, got, err)
				}
			}
		}
		b.holds()
	}
}

// P11.1: what is no option; nothing is changed, and nothing counted.
func TestErrRange(t *testing.T) {
	b := several(t)
	for _, option := range beyond() {
		for _, verb := range []int{will, wont, do, dont} {
			if got, err := b.is.Hear(verb, option); !errors.Is(err, api.ErrRange) || got != (table.Heard{}) {
				t.Errorf("Hear(%d, %d): %+v, %v", verb, option, got, err)
			}
		}
		for side := range 2 {
			for _, on := range ways {
				if got, err := b.is.Ask(side, option, on); !errors.Is(err, api.ErrRange) || got != 0 {
					t.Errorf("Ask(%d, %d, %v): %d, %v", side, option, on, got, err)
				}
			}
		}
		b.holds()
	}
}

// P11.1: an error of asking changes nothing, and counts nothing, however often
// it is asked for.
func TestErrState(t *testing.T) {
	for side := range 2 {
		for _, word := range words {
			b := newBoth(t, table.Policy{})
			b.bring(side, 24, word)
			for _, on := range ways {
				if _, is := ask(word, on); is {
					continue
				}
				heard, asked, sent := b.is.Counts()
				for range 3 {
					if got, err := b.is.Ask(side, 24, on); !errors.Is(err, api.ErrState) || got != 0 {
						t.Errorf("%s, side %d, asked %v: %d, %v", word, side, on, got, err)
					}
				}
				h, a, s := b.is.Counts()
				if h != heard || a != asked || s != sent || b.is.State(side, 24) != stateOf(word) {
					t.Errorf("%s, side %d, asked %v: %d, %d, %d", word, side, on, h, a, s)
				}
				b.holds()
			}
		}
	}
}

// P11.1: a side or an option that isn't there is No, and not on, where all that
// is there is on.
func TestNotThere(t *testing.T) {
	b := newBoth(t, table.Policy{Us: options(), Him: options()})
	for _, option := range options() {
		if _, err := b.is.Hear(do, option); err != nil {
			t.Fatal(err)
		}
		if _, err := b.is.Hear(will, option); err != nil {
			t.Fatal(err)
		}
	}
	gone := func(side, option int) {
		if s := b.is.State(side, option); s != (qstate.State{}) || b.is.On(side, option) {
			t.Errorf("side %d, option %d: %+v, on %v", side, option, s, b.is.On(side, option))
		}
	}
	for _, option := range append(beyond(), options()...) {
		for _, side := range noSides() {
			gone(side, option)
		}
	}
	for _, option := range beyond() {
		gone(us, option)
		gone(him, option)
	}
	for _, side := range noSides() {
		if list := b.is.List(side); len(list) != 0 {
			t.Errorf("List(%d): %v", side, list)
		}
	}
	if n, m := len(b.is.List(us)), len(b.is.List(him)); n != all || m != all {
		t.Errorf("of us %d are on, of him %d", n, m)
	}
}

// P11.1: List of each side, with none, one, several and all on.
func TestList(t *testing.T) {
	falling := options()
	slices.Reverse(falling)
	for _, on := range [][]int{nil, {0}, {24}, {255}, {31, 3, 200, 1, 255, 0}, {100, 99, 98}, falling} {
		for side := range 2 {
			b := newBoth(t, policyOf(side, on, nil))
			for _, option := range on {
				b.hear(verbOf(side, true), option)
			}
			want := slices.Sorted(slices.Values(on))
			if got := b.is.List(side); !slices.Equal(got, want) {
				t.Errorf("List(%d): %v, not %v", side, got, want)
			}
			if got := b.is.List(1 - side); len(got) != 0 {
				t.Errorf("List(%d): %v, not none", 1-side, got)
			}
			for i, option := range on {
				b.hear(verbOf(side, false), option)
				want = slices.Sorted(slices.Values(on[i+1:]))
				if got := b.is.List(side); !slices.Equal(got, want) {
					t.Errorf("List(%d): %v, not %v", side, got, want)
				}
			}
		}
	}
}

// P11.1: List has but what is on: neither what is asked for, nor what is to be
// off.
func TestListIsWhatIsOn(t *testing.T) {
	for side := range 2 {
		b := newBoth(t, table.Policy{})
		for i, word := range words {
			b.bring(side, 20+i, word)
		}
		if got := b.is.List(side); !slices.Equal(got, []int{20 + slices.Index(words, "yes")}) {
			t.Errorf("List(%d): %v", side, got)
		}
	}
}

// P11.1: Calm with nothing asked, with one thing wanted on either side, and
// when all has come.
func TestCalm(t *testing.T) {
	calm := func(x *table.Table, want bool, what string) {
		t.Helper()
		if got := x.Calm(); got != want {
			t.Errorf("%s: Calm is %v", what, got)
		}
	}
	for side := range 2 {
		for _, option := range options() {
			x := table.New(table.Policy{})
			calm(x, true, "at first")
			x.Ask(side, option, true)
			calm(x, false, "asked for on")
			x.Hear(verbOf(1-side, true), option)
			x.Hear(verbOf(side, true), (option+1)%all)
			calm(x, false, "what was heard was of others")
			x.Hear(verbOf(side, true), option)
			calm(x, true, "it came")
			x.Ask(side, option, false)
			calm(x, false, "asked for off")
			x.Ask(side, option, true)
			calm(x, false, "asked for on again")
			x.Hear(verbOf(side, false), option)
			calm(x, false, "off came, on is asked for")
			x.Hear(verbOf(side, false), option)
			calm(x, true, "on was refused")
		}
	}
}

// P11.1: Calm of two things that are wanted, on one side or on both: till both
// have come.
func TestCalmOfTwo(t *testing.T) {
	b := newBoth(t, table.Policy{})
	for _, two := range [][2][2]int{{{us, 24}, {him, 24}}, {{us, 0}, {us, 255}}, {{him, 0}, {him, 255}}, {{him, 1}, {us, 254}}} {
		for _, c := range two {
			b.ask(c[0], c[1], true)
		}
		for i, c := range two {
			if b.is.Calm() {
				t.Errorf("%v: it is calm ahead of answer %d", two, i)
			}
			b.hear(verbOf(c[0], false), c[1])
		}
		if !b.is.Calm() {
			t.Errorf("%v: it isn't calm behind both answers", two)
		}
	}
}

// P11.1: Counts behind every call, by a row that is written down.
func TestCounts(t *testing.T) {
	x := table.New(table.Policy{Us: []int{24}})
	for _, c := range []struct {
		what               string
		call               func() error
		heard, asked, sent int
	}{
		{"nothing", func() error { return nil }, 0, 0, 0},
		{"DO ttype, agreed", func() error { _, err := x.Hear(do, 24); return err }, 1, 0, 1},
		{"DO ttype again", func() error { _, err := x.Hear(do, 24); return err }, 2, 0, 1},
		{"WILL echo, refused", func() error { _, err := x.Hear(will, 1); return err }, 3, 0, 2},
		{"WONT echo", func() error { _, err := x.Hear(wont, 1); return err }, 4, 0, 2},
		{"no verb", func() error { x.Hear(250, 1); x.Hear(255, 1); x.Hear(will, 256); return nil }, 4, 0, 2},
		{"ask him echo", func() error { _, err := x.Ask(him, 1, true); return err }, 4, 1, 3},
		{"ask him echo again", func() error { x.Ask(him, 1, true); x.Ask(2, 1, true); x.Ask(him, -1, true); return nil }, 4, 1, 3},
		{"ask him echo off", func() error { _, err := x.Ask(him, 1, false); return err }, 4, 2, 3},
		{"WILL echo", func() error { _, err := x.Hear(will, 1); return err }, 5, 2, 4},
		{"WILL echo, wrong", func() error { _, err := x.Hear(will, 1); return err }, 6, 2, 4},
		{"DONT ttype", func() error { _, err := x.Hear(dont, 24); return err }, 7, 2, 5},
	} {
		err := c.call()
		x.State(us, 24)
		x.List(us)
		x.Calm()
		if heard, asked, sent := x.Counts(); err != nil || heard != c.heard || asked != c.asked || sent != c.sent {
			t.Errorf("%s: %v, %d, %d, %d, not %d, %d, %d", c.what, err, heard, asked, sent, c.heard, c.asked, c.sent)
		}
	}
}

// policies is policies of all kinds.
func policies() []table.Policy {
	odd := append(beyond(), 24)
	return []table.Policy{
		{},
		{Us: []int{}, Him: []int{}},
		{Us: []int{24}},
		{Him: []int{24}},
		{Us: []int{24, 24, 1, 24}, Him: []int{1, 1}},
		{Us: beyond(), Him: beyond()},
		{Us: odd, Him: append(odd, odd...)},
		{Us: options(), Him: options()},
		{Us: options()},
		{Him: append(options(), options()...)},
		{Us: []int{0, 255}, Him: []int{255, 0}},
	}
}

// P11.1: what is agreed to by policies of all kinds, of each option.
func TestPolicies(t *testing.T) {
	for i, p := range policies() {
		for _, option := range options() {
			x := table.New(p)
			for _, c := range []struct {
				side, verb int
				list       []int
			}{{us, do, p.Us}, {him, will, p.Him}} {
				h, err := x.Hear(c.verb, option)
				agree := slices.Contains(c.list, option)
				want := table.Heard{Side: c.side, Verb: sentAs(c.side, "against")}
				if agree {
					want = table.Heard{Side: c.side, Verb: sentAs(c.side, "for"), Turned: true}
				}
				if h != want || err != nil || x.On(c.side, option) != agree {
					t.Fatalf("policy %d, %d of %d: %+v, %v, on %v", i, c.verb, option, h, err, x.On(c.side, option))
				}
			}
		}
	}
}

// P11.1: a policy doesn't hold who asks: what it doesn't agree to can be asked
// for; nor does it turn anything by itself.
func TestPolicyIsForWhatIsHeard(t *testing.T) {
	for _, p := range policies() {
		b := newBoth(t, p)
		if n, m := len(b.is.List(us)), len(b.is.List(him)); n != 0 || m != 0 || !b.is.Calm() {
			t.Errorf("%v: %d and %d are on at first", p, n, m)
		}
		for side := range 2 {
			for _, option := range []int{0, 1, 24, 77, 255} {
				b.ask(side, option, true)
				if h := b.hear(verbOf(side, true), option); h != (table.Heard{Side: side, Turned: true}) {
					t.Errorf("%v: %+v", p, h)
				}
			}
		}
	}
}

// P11.1: what is given isn't changed, nor the room behind it, and isn't kept.
func TestPolicyIsTheCallers(t *testing.T) {
	list := append(beyond(), 24, 3, 24)
	for side := range 2 {
		mine, others := slices.Concat(list, []int{7, 7}), slices.Concat([]int{1, -5, 2}, []int{9})
		p := policyOf(side, mine[:len(list)], others[:3])
		b := both{t, table.New(p), newModel(p)}
		if !slices.Equal(mine, slices.Concat(list, []int{7, 7})) || !slices.Equal(others, []int{1, -5, 2, 9}) {
			t.Errorf("New changed what it was given: %v, %v", mine, others)
		}
		for i := range mine {
			mine[i] = 200
		}
		for i := range others {
			others[i] = 201
		}
		for _, option := range []int{200, 201, 24, 3, 1, 2, 7, 9} {
			b.hear(do, option)
			b.hear(will, option)
		}
		for i := range mine {
			if mine[i] != 200 {
				t.Errorf("the table changed what was given to New: %v", mine)
			}
		}
	}
}

// P11.1: a List that is written over turns nothing.
func TestListIsTheCallers(t *testing.T) {
	b := newBoth(t, table.Policy{Us: options(), Him: []int{3, 24, 255}})
	for _, option := range []int{3, 24, 255} {
		b.hear(do, option)
		b.hear(will, option)
	}
	for side := range 2 {
		list := b.is.List(side)
		other := b.is.List(side)
		list = list[:cap(list)] // the room behind it is the caller's, too
		for i := range list {
			list[i] = 100 + i
		}
		if !slices.Equal(other, []int{3, 24, 255}) {
			t.Errorf("one List is written over by another one: %v", other)
		}
		b.holds()
	}
}

// P11.2: two tables share nothing, also of one policy.
func TestTwoTables(t *testing.T) {
	p := table.Policy{Us: []int{1, 24}, Him: []int{3, 24}}
	one, two := newBoth(t, p), newBoth(t, p)
	three := newBoth(t, table.Policy{})
	for _, act := range []func(){
		func() { one.hear(do, 24) },
		func() { one.ask(him, 5, true) },
		func() { two.hear(will, 24) },
		func() { two.ask(him, 5, true) },
		func() { three.hear(will, 24) },
		func() { one.hear(wont, 5) },
		func() { three.ask(us, 5, true) },
		func() { three.hear(do, 5) },
		func() { two.hear(will, 5) },
	} {
		act()
		for _, b := range []both{one, two, three} {
			b.holds()
		}
	}
}

// P11.2: what is done with one option of one side leaves all others as they
// were (which both holds behind each call), where these are in states of all
// kinds.
func TestApart(t *testing.T) {
	for side := range 2 {
		for _, option := range []int{0, 1, 24, 127, 128, 254, 255} {
			b := newBoth(t, table.Policy{Us: []int{option}, Him: []int{option}})
			for n := range all {
				if n != option {
					b.bring(us, n, words[n%len(words)])
				}
				b.bring(him, n, words[n/2%len(words)])
			}
			if side == him {
				b.bring(us, option, "wantno!")
			}
			for _, is := range []bool{true, true, false, false, true} {
				b.hear(verbOf(side, is), option)
				b.ask(side, option, !is)
				b.ask(side, option, is)
			}
		}
	}
}

// P11.2: an answer to what one side was asked for isn't one for the other side
// of the same option.
func TestSidesAreApart(t *testing.T) {
	b := newBoth(t, table.Policy{})
	b.ask(us, 24, true)
	if got := told(b.is, b.hear(will, 24), 24); got != "him no dont" {
		t.Errorf("WILL, where DO is waited for: %s", got)
	}
	if got := qstate.Word(b.is.State(us, 24)); got != "wantyes" {
		t.Errorf("us: %s", got)
	}
	if got := told(b.is, b.hear(do, 24), 24); got != "us yes turned" {
		t.Errorf("DO: %s", got)
	}
	if got := told(b.is, b.hear(wont, 24), 24); got != "him no" {
		t.Errorf("WONT: %s", got)
	}
	if got := b.is.List(us); !slices.Equal(got, []int{24}) {
		t.Errorf("List of us: %v", got)
	}
}

// act is one call by chance, of few options, so that they are met again, and
// now and then of what isn't there.
func (b both) act(chance *rand.Rand, few []int) {
	b.t.Helper()
	option := few[chance.Intn(len(few))]
	side := chance.Intn(2)
	switch n := chance.Intn(40); {
	case n == 0:
		option = beyond()[chance.Intn(len(beyond()))]
	case n == 1:
		side = noSides()[chance.Intn(len(noSides()))]
	case n == 2:
		b.hear(noVerbs()[chance.Intn(len(noVerbs()))], option)
		return
	}
	if chance.Intn(2) == 0 {
		b.ask(side, option, chance.Intn(2) == 0)
		return
	}
	b.hear(will+chance.Intn(4), option)
}

// someOf is some of the options by chance.
func someOf(chance *rand.Rand) []int {
	list := options()
	chance.Shuffle(len(list), func(i, j int) { list[i], list[j] = list[j], list[i] })
	return list[:chance.Intn(len(list)+1)]
}

// P11.1, P11.2: long runs of all calls by chance, in every order.
func TestLongRuns(t *testing.T) {
	for run := range 60 {
		chance := rand.New(rand.NewSource(int64(1100 + run)))
		b := newBoth(t, table.Policy{Us: someOf(chance), Him: someOf(chance)})
		few := options()
		if run%2 == 0 {
			few = append(someOf(chance), 0)
			few = few[:1+min(len(few)-1, run/6)]
		}
		for range 500 {
			b.act(chance, few)
		}
	}
}

// said is a verb that is on its way.
type said struct{ verb, option int }

// joined is two tables; what one is to send comes to the other one, in order.
type joined struct {
	t     *testing.T
	ends  [2]*table.Table
	rows  [2][]said // what is on its way to each
	story []string
}

func join(t *testing.T, p, q table.Policy) *joined {
	return &joined{t: t, ends: [2]*table.Table{table.New(p), table.New(q)}}
}

// sends puts what an end is to send on its way.
func (j *joined) sends(end, verb, option int) {
	if verb != 0 {
		j.rows[1-end] = append(j.rows[1-end], said{verb, option})
	}
}

// asks asks at an end; where that can't be done nothing comes of it.
func (j *joined) asks(end, side, option int, on bool) {
	j.t.Helper()
	verb, err := j.ends[end].Ask(side, option, on)
	if err != nil && !errors.Is(err, api.ErrState) {
		j.t.Fatalf("Ask(%d, %d, %v): %v", side, option, on, err)
	}
	j.story = append(j.story, fmt.Sprintf("%d asks %d %d %v: %d %v", end, side, option, on, verb, err))
	j.sends(end, verb, option)
	j.bound(end)
}

// hears lets an end hear the first verb that is on its way to it, if there is
// one: whether there was.
func (j *joined) hears(end int) bool {
	j.t.Helper()
	if len(j.rows[end]) == 0 {
		return false
	}
	x := j.rows[end][0]
	j.rows[end] = j.rows[end][1:]
	h, err := j.ends[end].Hear(x.verb, x.option)
	j.story = append(j.story, fmt.Sprintf("%d hears %d %d: %+v", end, x.verb, x.option, h))
	if err != nil || h.Wrong {
		j.t.Fatalf("Hear(%d, %d): %+v, %v: %q", x.verb, x.option, h, err, j.story)
	}
	j.sends(end, h.Verb, x.option)
	j.bound(end)
	return true
}

// bound holds P11.2's numbers.
func (j *joined) bound(end int) {
	j.t.Helper()
	if heard, asked, sent := j.ends[end].Counts(); sent > heard+asked {
		j.t.Fatalf("%d verbs are sent of %d heard and %d asked for: %q", sent, heard, asked, j.story)
	}
}

// rest lets both hear, in an order that pick tells, till nothing is on its way:
// then all is calm, and both agree.
func (j *joined) rest(pick func() int) {
	j.t.Helper()
	for n := 0; len(j.rows[0])+len(j.rows[1]) > 0; n++ {
		if n > 100000 {
			j.t.Fatalf("they don't come to rest: %v", j.rows)
		}
		if end := pick(); !j.hears(end) {
			j.hears(1 - end)
		}
	}
	if !j.ends[0].Calm() || !j.ends[1].Calm() {
		j.t.Fatalf("at rest, Calm is %v and %v: %q", j.ends[0].Calm(), j.ends[1].Calm(), j.story)
	}
	for option := range all {
		if j.ends[0].On(us, option) != j.ends[1].On(him, option) || j.ends[0].On(him, option) != j.ends[1].On(us, option) {
			j.t.Fatalf("at rest, they don't agree on %d: %q", option, j.story)
		}
	}
}

// P11.2: two joined tables, all short runs of askings and hearings of one
// option, with each policy.
func TestJoinedShort(t *testing.T) {
	acts := []func(j *joined){
		func(j *joined) { j.hears(0) },
		func(j *joined) { j.hears(1) },
	}
	for n := range 8 {
		acts = append(acts, func(j *joined) { j.asks(n&1, n>>1&1, 24, n&4 != 0) })
	}
	for n := range 16 * 10 * 10 * 10 * 10 {
		policy := n % 16
		list := func(bit int) []int { return []int{24}[:policy>>bit&1] }
		j := join(t, table.Policy{Us: list(0), Him: list(1)}, table.Policy{Us: list(2), Him: list(3)})
		for rest := n / 16; rest > 0; rest /= 10 {
			acts[rest%10](j)
		}
		turn := 0
		j.rest(func() int { turn = 1 - turn; return turn })
	}
}

// P11.2: two joined tables, with any policies, asking meanwhile on either side,
// for few options or many, and hearing in any order.
func TestJoinedLong(t *testing.T) {
	for run := range 400 {
		chance := rand.New(rand.NewSource(int64(1500 + run)))
		j := join(t, table.Policy{Us: someOf(chance), Him: someOf(chance)}, table.Policy{Us: someOf(chance), Him: someOf(chance)})
		few := append(someOf(chance), 255)[:1]
		if run%2 == 0 {
			few = options()
		}
		hearing := 1 + chance.Intn(4)
		for range chance.Intn(600) {
			if chance.Intn(5) < hearing {
				j.hears(chance.Intn(2))
				continue
			}
			j.asks(chance.Intn(2), chance.Intn(2), few[chance.Intn(len(few))], chance.Intn(2) == 0)
		}
		j.rest(func() int { return chance.Intn(2) })
	}
}

// P11.2: whoever asks alone has at rest what was asked for last, if the other
// one agrees; else it is off.
func TestLastAskingHolds(t *testing.T) {
	for run := range 400 {
		chance := rand.New(rand.NewSource(int64(1900 + run)))
		agree, side := run%2 == 0, run/2%2
		var p table.Policy
		if agree {
			p = policyOf(1-side, []int{31}, nil)
		}
		j := join(t, table.Policy{}, p)
		want := false
		for range chance.Intn(60) {
			if chance.Intn(2) == 0 {
				j.hears(chance.Intn(2))
				continue
			}
			want = chance.Intn(2) == 0
			j.asks(0, side, 31, want)
		}
		j.rest(func() int { return chance.Intn(2) })
		if got := j.ends[0].On(side, 31); got != (want && agree) {
			t.Fatalf("asked for last: %v, agreed %v, it is %v: %q", want, agree, got, j.story)
		}
	}
}

// No numbers make a call panic, or are answered otherwise than they should be.
func FuzzCalls(f *testing.F) {
	f.Add(24, 1, will, 24, us, 24)
	f.Add(24, 24, 250, 24, 2, 24)
	f.Add(-1, 256, do, 256, him, -1)
	f.Add(math.MaxInt, math.MinInt, math.MaxInt, math.MinInt, math.MinInt, math.MaxInt)
	f.Fuzz(func(t *testing.T, mine, his, verb, option, side, other int) {
		b := newBoth(t, table.Policy{Us: []int{mine, his}, Him: []int{his}})
		for range 2 {
			b.hear(verb, option)
			b.ask(side, other, true)
			b.hear(verb, other)
			b.ask(side, option, false)
			b.ask(side, other, false)
			b.hear(verb, option)
		}
		b.is.State(side, option)
		b.is.On(verb, other)
		b.is.List(side)
	})
}
