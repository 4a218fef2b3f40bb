package qstate_test

import (
	"errors"
	"math"
	"math/rand"
	"slices"
	"testing"

	"truchman/api"
	"truchman/qstate"
)

// ways is both answers to what is asked of a call: for or against, agreed or
// not, on or off.
var ways = []bool{true, false}

// named is a state that is right, and the word that the chapter has for it.
type named struct {
	state qstate.State
	word  string
}

// rights is all states that are right, their kinds told by numbers.
func rights() []named {
	return []named{
		{qstate.State{Kind: 0}, "no"},
		{qstate.State{Kind: 1}, "yes"},
		{qstate.State{Kind: 2}, "wantno"},
		{qstate.State{Kind: 2, Opposite: true}, "wantno!"},
		{qstate.State{Kind: 3}, "wantyes"},
		{qstate.State{Kind: 3, Opposite: true}, "wantyes!"},
	}
}

// wrongs is states that aren't right: kinds around those that are, far beyond
// them, and such as could be mistaken for one of them, and No and Yes that are
// Opposite.
func wrongs() []qstate.State {
	list := []qstate.State{{Kind: 0, Opposite: true}, {Kind: 1, Opposite: true}}
	kinds := []int{
		math.MinInt, math.MinInt + 1, math.MinInt + 2, math.MinInt + 3, math.MinInt32, math.MinInt16, math.MinInt8,
		math.MaxInt, math.MaxInt - 1, math.MaxInt - 2, math.MaxInt32, math.MaxUint32,
		1 << 8, 1<<8 + 1, 1<<8 + 2, 1<<8 + 3, 1 << 16, 1<<16 + 1, 1<<16 + 3, 1 << 32, 1<<32 + 1, 1<<32 + 2, 1<<32 + 3,
		-1 << 32, -1<<32 + 1, -1<<8 + 2,
	}
	for n := 4; n <= 300; n++ {
		kinds = append(kinds, n, 3-n)
	}
	for _, k := range kinds {
		list = append(list, qstate.State{Kind: k}, qstate.State{Kind: k, Opposite: true})
	}
	return list
}

// wordOf is the word that a state should have, or none.
func wordOf(s qstate.State) string {
	for _, n := range rights() {
		if n.state == s {
			return n.word
		}
	}
	return "not right"
}

// tell is a move as text: the word of the state behind it, what is sent, and
// whether it was wrong.
func tell(m qstate.Move) string {
	text := wordOf(m.State)
	switch m.Send {
	case 0:
	case 1:
		text += " for"
	case 2:
		text += " against"
	default:
		text += " something else"
	}
	if m.Wrong {
		text += " wrong"
	}
	return text
}

// hear is the move that must come of a verb.
func hear(t *testing.T, s qstate.State, is, agree bool) qstate.Move {
	t.Helper()
	m, err := qstate.Hear(s, is, agree)
	if err != nil {
		t.Fatalf("Hear(%s, %v, %v): %v", wordOf(s), is, agree, err)
	}
	return m
}

func TestNumbers(t *testing.T) {
	for i, n := range []int{qstate.No, qstate.Yes, qstate.WantNo, qstate.WantYes} {
		if n != i {
			t.Errorf("the kind %d is %d", i, n)
		}
	}
	for i, n := range []int{qstate.Nothing, qstate.For, qstate.Against} {
		if n != i {
			t.Errorf("what is sent, %d, is %d", i, n)
		}
	}
}

func TestExample(t *testing.T) {
	want := qstate.Move{State: qstate.State{Kind: qstate.Yes}, Send: qstate.For}
	if m, err := qstate.Hear(qstate.State{Kind: qstate.No}, true, true); m != want || err != nil {
		t.Errorf("No, heard for, agreed: %+v, %v", m, err)
	}
}

// P10.1: Right, On, Calm and Word of all that is right.
func TestRightStates(t *testing.T) {
	for _, n := range rights() {
		if !qstate.Right(n.state) {
			t.Errorf("%s isn't right", n.word)
		}
		if got := qstate.On(n.state); got != (n.word == "yes") {
			t.Errorf("On of %s: %v", n.word, got)
		}
		if got := qstate.Calm(n.state); got != (n.word == "yes" || n.word == "no") {
			t.Errorf("Calm of %s: %v", n.word, got)
		}
		if got := qstate.Word(n.state); got != n.word {
			t.Errorf("Word of %s: %q", n.word, got)
		}
	}
}

// P10.1: Right, On, Calm and Word of what isn't right. (On asks but for the
// kind, so that a Yes that is Opposite is on, though it isn't right.)
func TestWrongStates(t *testing.T) {
	for _, s := range wrongs() {
		if qstate.Right(s) {
			t.Errorf("%+v is right", s)
		}
		if got := qstate.On(s); got != (s.Kind == 1) {
			t.Errorf("On of %+v: %v", s, got)
		}
		if qstate.Calm(s) {
			t.Errorf("%+v is calm", s)
		}
		if got := qstate.Word(s); got != "" {
			t.Errorf("Word of %+v: %q", s, got)
		}
	}
}

// P10.1: Hear, held against the chapter's table.
func TestHear(t *testing.T) {
	table := map[string]struct{ agreed, refused, against string }{
		"no":       {"yes for", "no against", "no"},
		"yes":      {"yes", "yes", "no against"},
		"wantno":   {"no wrong", "no wrong", "no"},
		"wantno!":  {"yes wrong", "yes wrong", "wantyes for"},
		"wantyes":  {"yes", "yes", "no"},
		"wantyes!": {"wantno against", "wantno against", "no"},
	}
	for _, n := range rights() {
		want := table[n.word]
		for _, h := range []struct {
			is, agree bool
			want      string
		}{
			{true, true, want.agreed},
			{true, false, want.refused},
			{false, true, want.against},
			{false, false, want.against},
		} {
			if got := tell(hear(t, n.state, h.is, h.agree)); got != h.want {
				t.Errorf("Hear(%s, %v, %v): %s, not %s", n.word, h.is, h.agree, got, h.want)
			}
		}
	}
}

// P10.1: Ask, held against the chapter's table; what isn't in it is ErrState.
func TestAsk(t *testing.T) {
	table := map[string]struct{ on, off string }{
		"no":       {on: "wantyes for"},
		"yes":      {off: "wantno against"},
		"wantno":   {on: "wantno!"},
		"wantno!":  {off: "wantno"},
		"wantyes":  {off: "wantyes!"},
		"wantyes!": {on: "wantyes"},
	}
	for _, n := range rights() {
		for _, on := range ways {
			want := table[n.word].off
			if on {
				want = table[n.word].on
			}
			m, err := qstate.Ask(n.state, on)
			switch {
			case want == "" && (!errors.Is(err, api.ErrState) || m != qstate.Move{}):
				t.Errorf("Ask(%s, %v): %s, %v, not ErrState", n.word, on, tell(m), err)
			case want != "" && (err != nil || tell(m) != want):
				t.Errorf("Ask(%s, %v): %s, %v, not %s", n.word, on, tell(m), err, want)
			}
		}
	}
}

// P10.1: Hear and Ask of what isn't right, whatever else is given.
func TestErrForm(t *testing.T) {
	for _, s := range wrongs() {
		for _, one := range ways {
			for _, two := range ways {
				if m, err := qstate.Hear(s, one, two); !errors.Is(err, api.ErrForm) || m != (qstate.Move{}) {
					t.Errorf("Hear(%+v, %v, %v): %+v, %v", s, one, two, m, err)
				}
			}
			if m, err := qstate.Ask(s, one); !errors.Is(err, api.ErrForm) || m != (qstate.Move{}) {
				t.Errorf("Ask(%+v, %v): %+v, %v", s, one, m, err)
			}
		}
	}
}

// P10.1: only an answer that can't be one is wrong, and only three states send
// the opposite of what is heard: No, if we don't agree, and those of which the
// opposite was to be asked for.
func TestWrongAndOpposite(t *testing.T) {
	for _, n := range rights() {
		for _, is := range ways {
			for _, agree := range ways {
				m := hear(t, n.state, is, agree)
				if wrong := is && (n.word == "wantno" || n.word == "wantno!"); m.Wrong != wrong {
					t.Errorf("Hear(%s, %v, %v): %s", n.word, is, agree, tell(m))
				}
				turns := n.word == "no" && is && !agree || n.word == "wantno!" && !is || n.word == "wantyes!" && is
				if got := m.Send == qstate.Against && is || m.Send == qstate.For && !is; got != turns {
					t.Errorf("Hear(%s, %v, %v): %s", n.word, is, agree, tell(m))
				}
			}
		}
	}
}

// P10.1: behind no answer a state isn't right, and behind what is heard it
// isn't Opposite; asking is never wrong.
func TestBehindAnswers(t *testing.T) {
	for _, n := range rights() {
		for _, is := range ways {
			for _, agree := range ways {
				if m := hear(t, n.state, is, agree); !qstate.Right(m.State) || m.State.Opposite {
					t.Errorf("Hear(%s, %v, %v): %+v", n.word, is, agree, m)
				}
			}
			if m, err := qstate.Ask(n.state, is); err == nil && !qstate.Right(m.State) || m.Wrong {
				t.Errorf("Ask(%s, %v): %+v", n.word, is, m)
			}
		}
	}
}

// P10.2: what is heard and says what is draws nothing, and changes nothing.
func TestWhatIs(t *testing.T) {
	for _, agree := range ways {
		for kind, is := range map[int]bool{qstate.Yes: true, qstate.No: false} {
			s := qstate.State{Kind: kind}
			if m := hear(t, s, is, agree); m != (qstate.Move{State: s}) {
				t.Errorf("Hear(%s, %v, %v): %s", wordOf(s), is, agree, tell(m))
			}
		}
	}
}

// P10.2: what is sent is one verb, or none; an asking sends what it asks for.
func TestOneVerb(t *testing.T) {
	verbs := []int{qstate.Nothing, qstate.For, qstate.Against}
	for _, n := range rights() {
		for _, is := range ways {
			for _, agree := range ways {
				if m := hear(t, n.state, is, agree); !slices.Contains(verbs, m.Send) {
					t.Errorf("Hear(%s, %v, %v): %+v", n.word, is, agree, m)
				}
			}
			m, _ := qstate.Ask(n.state, is)
			if !slices.Contains(verbs, m.Send) || m.Send == qstate.For && !is || m.Send == qstate.Against && is {
				t.Errorf("Ask(%s, %v): %+v", n.word, is, m)
			}
		}
	}
}

// asks does askings, one behind the other: on (+) or off (-). It tells the
// states behind them and what is sent, or an exclamation mark for ErrState.
func asks(t *testing.T, s qstate.State, askings string) []string {
	t.Helper()
	var list []string
	for _, a := range askings {
		m, err := qstate.Ask(s, a == '+')
		switch {
		case errors.Is(err, api.ErrState):
			list = append(list, "!")
		case err != nil:
			t.Fatalf("Ask(%s, %c): %v", wordOf(s), a, err)
		default:
			list = append(list, tell(m))
			s = m.State
		}
	}
	return list
}

// P10.1, P10.2: asking twice, for the opposite before the answer has come, and
// again for the opposite of that.
func TestAskingAgain(t *testing.T) {
	for _, a := range []struct {
		kind    int
		askings string
		want    []string
	}{
		{qstate.No, "++", []string{"wantyes for", "!"}},
		{qstate.No, "-", []string{"!"}},
		{qstate.No, "+--++--+", []string{"wantyes for", "wantyes!", "!", "wantyes", "!", "wantyes!", "!", "wantyes"}},
		{qstate.No, "--++", []string{"!", "!", "wantyes for", "!"}},
		{qstate.Yes, "--", []string{"wantno against", "!"}},
		{qstate.Yes, "+", []string{"!"}},
		{qstate.Yes, "-++--++-", []string{"wantno against", "wantno!", "!", "wantno", "!", "wantno!", "!", "wantno"}},
		{qstate.Yes, "++--", []string{"!", "!", "wantno against", "!"}},
	} {
		if got := asks(t, qstate.State{Kind: a.kind}, a.askings); !slices.Equal(got, a.want) {
			t.Errorf("%s, %s: %q, not %q", wordOf(qstate.State{Kind: a.kind}), a.askings, got, a.want)
		}
	}
}

// P10.1: the same calls have the same answers, whatever was called between.
func TestSameAnswers(t *testing.T) {
	all := func() (list []string) {
		for _, n := range rights() {
			for _, is := range ways {
				list = append(list, tell(hear(t, n.state, is, true)), tell(hear(t, n.state, is, false)))
				m, _ := qstate.Ask(n.state, is)
				list = append(list, tell(m), qstate.Word(m.State))
			}
		}
		return list
	}
	first := all()
	for _, s := range wrongs() {
		qstate.Hear(s, true, true)
		qstate.Ask(s, true)
	}
	if second := all(); !slices.Equal(first, second) {
		t.Errorf("%q, then %q", first, second)
	}
}

// joined is two sides, and the verbs on the way to each of them: + is for, - is
// against.
type joined struct {
	sides [2]qstate.State
	rows  [2]string
}

// both is two sides that begin at that kind.
func both(kind int) joined {
	s := qstate.State{Kind: kind}
	return joined{sides: [2]qstate.State{s, s}}
}

// tell is both sides, with what is on the way to each.
func (j joined) tell() string {
	return wordOf(j.sides[0]) + " <" + j.rows[0] + " " + wordOf(j.sides[1]) + " <" + j.rows[1]
}

// done is what becomes of them, if that is one side's move.
func (j joined) done(side int, m qstate.Move) joined {
	j.sides[side] = m.State
	switch m.Send {
	case qstate.For:
		j.rows[1-side] += "+"
	case qstate.Against:
		j.rows[1-side] += "-"
	}
	return j
}

// step is what can happen to them: a side asks, for on or off, or hears the
// first verb on the way to it, and agrees or doesn't.
type step struct {
	side         int
	hears        bool
	on, agree    bool
	sends, wrong bool
	behind       joined
}

// asking is each asking that either side can do.
func (j joined) asking() []step {
	var list []step
	for side, s := range j.sides {
		for _, on := range ways {
			if m, err := qstate.Ask(s, on); err == nil {
				list = append(list, step{side: side, on: on, sends: m.Send != 0, wrong: m.Wrong, behind: j.done(side, m)})
			}
		}
	}
	return list
}

// hearing is each verb that either side can hear, agreed and not.
func (j joined) hearing(t *testing.T) []step {
	t.Helper()
	var list []step
	for side, s := range j.sides {
		if j.rows[side] == "" {
			continue
		}
		is := j.rows[side][0] == '+'
		k := j
		k.rows[side] = j.rows[side][1:]
		for _, agree := range ways {
			m := hear(t, s, is, agree)
			list = append(list, step{side, true, is, agree, m.Send != 0, m.Wrong, k.done(side, m)})
		}
	}
	return list
}

// reached is all that two sides can come to, whoever asks for what at whatever
// moment, in whatever order the verbs are heard, agreed or not.
func reached(t *testing.T, begin ...joined) map[joined]bool {
	t.Helper()
	there := map[joined]bool{}
	for len(begin) > 0 {
		j := begin[0]
		begin = begin[1:]
		if there[j] {
			continue
		}
		there[j] = true
		if len(there) > 10000 {
			t.Fatalf("it goes on and on: %s", j.tell())
		}
		for _, x := range slices.Concat(j.asking(), j.hearing(t)) {
			begin = append(begin, x.behind)
		}
	}
	return there
}

// agree tells whether both are Yes, or both No.
func (j joined) agree() bool {
	return j.sides[0] == j.sides[1] && (j.sides[0] == qstate.State{Kind: 0} || j.sides[0] == qstate.State{Kind: 1})
}

// P10.3: of all that two sides can come to, however long it went on, nothing is
// wrong, no state isn't right, and where nothing is on the way, both are at
// rest.
func TestJoinedAlways(t *testing.T) {
	for _, begin := range [][]joined{{both(qstate.No)}, {both(qstate.Yes)}, {both(qstate.No), both(qstate.Yes)}} {
		for j := range reached(t, begin...) {
			for _, s := range j.sides {
				if wordOf(s) == "not right" {
					t.Errorf("not right: %+v", j)
				}
			}
			for _, x := range slices.Concat(j.asking(), j.hearing(t)) {
				if x.wrong {
					t.Errorf("wrong: %s, then %s", j.tell(), x.behind.tell())
				}
			}
			if j.rows == [2]string{} && !j.agree() {
				t.Errorf("nothing is on the way: %s", j.tell())
			}
		}
	}
}

// mustRest goes through all orders in which the verbs can be heard, if nobody
// asks any more: each must end, with both sides at rest. It answers how many
// verbs are heard at most.
func mustRest(t *testing.T, j joined, most map[joined]int) int {
	t.Helper()
	if n, is := most[j]; is {
		if n < 0 {
			t.Fatalf("it comes round to itself: %s", j.tell())
		}
		return n
	}
	most[j] = -1
	n := 0
	list := j.hearing(t)
	for _, x := range list {
		n = max(n, 1+mustRest(t, x.behind, most))
	}
	if len(list) == 0 && !j.agree() {
		t.Errorf("at rest: %s", j.tell())
	}
	most[j] = n
	return n
}

// P10.3: from all that two sides can come to, they come to rest, in whatever
// order the verbs are heard, and soon.
func TestJoinedRest(t *testing.T) {
	most := map[joined]int{}
	for j := range reached(t, both(qstate.No), both(qstate.Yes)) {
		if n := mustRest(t, j, most); n > 10 {
			t.Errorf("%d verbs are heard till it rests: %s", n, j.tell())
		}
	}
}

// run is a run of two sides: where it stands, and how many verbs were asked
// for, heard and answered, and sent.
type run struct {
	at                           joined
	asked, heard, answered, sent int
}

// goes is a run with one more step; it holds P10.2's and P10.3's numbers.
func (r run) goes(t *testing.T, x step) run {
	t.Helper()
	before := r
	r.at = x.behind
	switch {
	case x.hears && x.sends:
		r.answered++
		fallthrough
	case x.hears:
		r.heard++
	default:
		r.asked++
	}
	if x.sends {
		r.sent++
	}
	there := len(r.at.rows[0]) + len(r.at.rows[1])
	if there != r.sent-r.heard || there > r.asked+r.answered-r.heard || r.sent > r.asked+r.heard {
		t.Fatalf("too many verbs: %+v, then %+v", before, r)
	}
	if x.hears && before.at.sides[x.side] == (qstate.State{Kind: kindOf(x.on)}) && (x.sends || r.at.sides != before.at.sides) {
		t.Fatalf("what is was told: %s, then %s", before.at.tell(), r.at.tell())
	}
	if x.wrong {
		t.Fatalf("wrong: %s, then %s", before.at.tell(), r.at.tell())
	}
	return r
}

// kindOf is Yes or No.
func kindOf(on bool) int {
	if on {
		return qstate.Yes
	}
	return qstate.No
}

// breaks asks a step whether a side agrees otherwise than by its policy.
func breaks(policy [2]bool) func(step) bool {
	return func(x step) bool { return x.hears && x.agree != policy[x.side] }
}

// eachRun goes through all runs of that many more steps.
func eachRun(t *testing.T, r run, policy [2]bool, more int, most map[joined]int) {
	t.Helper()
	mustRest(t, r.at, most)
	if more == 0 {
		return
	}
	steps := slices.DeleteFunc(slices.Concat(r.at.asking(), r.at.hearing(t)), breaks(policy))
	for _, x := range steps {
		eachRun(t, r.goes(t, x), policy, more-1, most)
	}
}

// P10.2, P10.3: all short runs, each side agreeing or not.
func TestShortRuns(t *testing.T) {
	for _, kind := range []int{qstate.No, qstate.Yes} {
		for _, one := range ways {
			for _, two := range ways {
				eachRun(t, run{at: both(kind)}, [2]bool{one, two}, 8, map[joined]int{})
			}
		}
	}
}

// oneOf is one of the steps by chance, asking as often as hearing where both
// can be.
func oneOf(r *rand.Rand, asking, hearing []step) step {
	if len(hearing) == 0 || len(asking) > 0 && r.Intn(2) == 0 {
		return asking[r.Intn(len(asking))]
	}
	return hearing[r.Intn(len(hearing))]
}

// P10.2, P10.3: long runs by chance, with policies that hold, or turn from verb
// to verb; then nobody asks any more, and they come to rest.
func TestLongRuns(t *testing.T) {
	chance := rand.New(rand.NewSource(103))
	for i := range 2000 {
		policy := [2]bool{i&1 != 0, i&2 != 0}
		hearing := func(j joined) []step {
			if i&4 != 0 {
				return j.hearing(t)
			}
			return slices.DeleteFunc(j.hearing(t), breaks(policy))
		}
		r := run{at: both(kindOf(i&8 != 0))}
		for range chance.Intn(200) {
			r = r.goes(t, oneOf(chance, r.at.asking(), hearing(r.at)))
		}
		for n := 0; r.at.rows != [2]string{}; n++ {
			if n > 100 {
				t.Fatalf("it doesn't rest: %s", r.at.tell())
			}
			r = r.goes(t, oneOf(chance, nil, hearing(r.at)))
		}
		if !r.at.agree() {
			t.Fatalf("at rest: %s", r.at.tell())
		}
	}
}

// P10.3: whoever asks alone, of one who agrees, has at rest what was asked for
// last; of one who doesn't agree, it is off.
func TestLastAskingHolds(t *testing.T) {
	chance := rand.New(rand.NewSource(104))
	for i := range 2000 {
		agree := i%2 == 0
		r := run{at: both(qstate.No)}
		want := qstate.No
		for range chance.Intn(40) {
			asking := slices.DeleteFunc(r.at.asking(), func(x step) bool { return x.side == 1 })
			x := oneOf(chance, asking, slices.DeleteFunc(r.at.hearing(t), breaks([2]bool{agree, agree})))
			if !x.hears {
				want = kindOf(x.on && agree)
			}
			r = r.goes(t, x)
		}
		for r.at.rows != [2]string{} {
			r = r.goes(t, oneOf(chance, nil, slices.DeleteFunc(r.at.hearing(t), breaks([2]bool{agree, agree}))))
		}
		if r.at != both(want) {
			t.Fatalf("asked for last, agreed %v: %d; at rest: %s", agree, want, r.at.tell())
		}
	}
}

// No number of a kind makes a call panic, or is told otherwise than it should
// be.
func FuzzKinds(f *testing.F) {
	f.Add(0, true, true, true)
	f.Add(3, true, true, false)
	f.Add(-1, false, true, true)
	f.Add(1<<32, false, false, false)
	f.Fuzz(func(t *testing.T, kind int, opposite, one, two bool) {
		s := qstate.State{Kind: kind, Opposite: opposite}
		right := kind >= 2 && kind <= 3 || !opposite && kind >= 0 && kind <= 1
		if qstate.Right(s) != right || (qstate.Word(s) != "") != right || qstate.On(s) != (kind == 1) {
			t.Errorf("%+v: %v, %q, %v", s, qstate.Right(s), qstate.Word(s), qstate.On(s))
		}
		if qstate.Calm(s) != (right && kind <= 1) {
			t.Errorf("Calm of %+v: %v", s, qstate.Calm(s))
		}
		_, heard := qstate.Hear(s, one, two)
		_, asked := qstate.Ask(s, one)
		if (heard == nil) != right || errors.Is(asked, api.ErrForm) == right {
			t.Errorf("%+v: Hear %v, Ask %v", s, heard, asked)
		}
	})
}
