package status_test

import (
	"bytes"
	"errors"
	"math"
	"math/rand"
	"slices"
	"strconv"
	"strings"
	"testing"

	"truchman/api"
	"truchman/qstate"
	"truchman/status"
	"truchman/table"
)

// Sides and verbs by their numbers, as layers 11 and 4 have them.
const (
	us, him              = 0, 1
	will, wont, do, dont = 251, 252, 253, 254
)

// sides is both sides.
var sides = []int{us, him}

// verbs is all verbs.
var verbs = []int{will, wont, do, dont}

// isVerb is whether a number should be a verb.
func isVerb(n int) bool { return slices.Contains(verbs, n) }

// isOption is whether a number should be an option.
func isOption(n int) bool { return 0 <= n && n < 256 }

// numbers is each number from -300 to 600, and such as are far below and far
// beyond: among them such whose last byte is that of a verb.
func numbers() []int {
	list := []int{
		math.MinInt, math.MinInt + 1, math.MinInt + 253, math.MinInt32, math.MinInt32 + 251, math.MinInt16, -1 << 32, -1<<32 + 253, -1<<16 + 254,
		1<<10 + 253, 1 << 16, 1<<16 + 251, math.MaxInt32, math.MaxInt32 - 2, 1 << 31, 1<<31 + 253, math.MaxUint32 - 2, 1 << 32, 1<<32 + 253,
		1<<40 + 252, 1<<62 + 253, math.MaxInt - 2, math.MaxInt - 1, math.MaxInt,
	}
	for n := -300; n <= 600; n++ {
		list = append(list, n)
	}
	return list
}

// noVerbs is such of these numbers as are no verbs.
func noVerbs() []int { return slices.DeleteFunc(numbers(), isVerb) }

// noOptions is such of these numbers as are no options.
func noOptions() []int { return slices.DeleteFunc(numbers(), isOption) }

// wordOf is what a line should have of a verb: each command has its word.
func wordOf(verb int) string {
	words := map[int]string{
		240: "se", 241: "nop", 242: "dm", 243: "brk", 244: "ip", 245: "ao", 246: "ayt", 247: "ec",
		248: "el", 249: "ga", 250: "sb", 251: "will", 252: "wont", 253: "do", 254: "dont", 255: "iac",
	}
	if word, is := words[verb]; is {
		return word
	}
	return "?"
}

// nameOf is what a line should have of an option.
func nameOf(option int) string {
	words := map[int]string{0: "binary", 1: "echo", 3: "sga", 5: "status", 6: "mark", 24: "ttype", 31: "naws", 34: "linemode"}
	word, is := words[option]
	switch {
	case is:
		return word
	case isOption(option):
		return strconv.Itoa(option)
	}
	return "?"
}

// lineOf is what Line should answer.
func lineOf(list []status.Entry) string {
	parts := []string{}
	for _, e := range list {
		parts = append(parts, wordOf(e.Verb)+" "+nameOf(e.Option))
	}
	return strings.Join(parts, ", ")
}

// bodyOf is what Body should answer.
func bodyOf(list []status.Entry) ([]byte, error) {
	if len(list) >= 121 {
		return nil, api.ErrLong
	}
	body := make([]byte, 1+2*len(list))
	for i, e := range list {
		if !isVerb(e.Verb) {
			return nil, api.ErrKind
		}
		if !isOption(e.Option) {
			return nil, api.ErrRange
		}
		body[2*i+1], body[2*i+2] = byte(e.Verb), byte(e.Option)
	}
	return body, nil
}

// parsed is what Parse should answer.
func parsed(b []byte) (list []status.Entry, asks bool, err error) {
	switch {
	case len(b) == 0:
		return nil, false, api.ErrShort
	case bytes.Equal(b, []byte{1}):
		return nil, true, nil
	case b[0] == 1:
		return nil, false, api.ErrLong
	case b[0] >= 2:
		return nil, false, api.ErrForm
	case len(b)%2 == 0:
		return nil, false, api.ErrShort
	}
	for pair := range slices.Chunk(b[1:], 2) {
		if !isVerb(int(pair[0])) {
			return nil, false, api.ErrKind
		}
		list = append(list, status.Entry{Verb: int(pair[0]), Option: int(pair[1])})
	}
	return list, false, nil
}

// reportOf is what Of should answer of a table: its options that are Yes.
func reportOf(x *table.Table) []status.Entry {
	var ours, his []status.Entry
	for option := range 256 {
		if x.State(us, option).Kind == qstate.Yes {
			ours = append(ours, status.Entry{Verb: will, Option: option})
		}
		if x.State(him, option).Kind == qstate.Yes {
			his = append(his, status.Entry{Verb: do, Option: option})
		}
	}
	return slices.Concat(ours, his)
}

// report is entries by two lists of options: those that are on at Us, and those
// that are on at Him.
func report(ours, his []int) []status.Entry {
	list := []status.Entry{}
	for _, option := range ours {
		list = append(list, status.Entry{Verb: 251, Option: option})
	}
	for _, option := range his {
		list = append(list, status.Entry{Verb: 253, Option: option})
	}
	return list
}

// every is all options, rising.
func every() []int {
	list := make([]int, 256)
	for option := range list {
		list[option] = option
	}
	return list
}

// many is as many entries as are asked for, each one right.
func many(n int) []status.Entry {
	list := make([]status.Entry, n)
	for i := range list {
		list[i] = status.Entry{Verb: verbs[i*7%4], Option: i * 11 % 256}
	}
	return list
}

// isError is whether an error is the one that is asked for.
func isError(got, want error) bool {
	if want == nil {
		return got == nil
	}
	return errors.Is(got, want)
}

// odd is an entry that no call should tell.
var odd = status.Entry{Verb: -77, Option: -99}

// given is a list, and the same with room behind it that isn't its own.
func given[T any](list []T, beyond T) (theirs, all []T) {
	all = append(slices.Clone(list), beyond, beyond, beyond)
	return all[:len(list)], all
}

// scribble writes over a list, and over the room behind it.
func scribble[T any](list []T, by T) {
	list = list[:cap(list)]
	for i := range list {
		list[i] = by
	}
}

// mustReport holds a table's report against what it should be, twice: writing
// over it turns nothing, nor does asking.
func mustReport(t *testing.T, x *table.Table, want []status.Entry) {
	t.Helper()
	was := *x
	for range 2 {
		got := status.Of(x)
		if !slices.Equal(got, want) {
			t.Fatalf("Of: %v, not %v", got, want)
		}
		scribble(got, odd)
		if *x != was {
			t.Fatalf("Of turned the table of %v", want)
		}
	}
}

// mustTell holds Body and Line of a list against the model, twice: writing over
// what they answered turns nothing. What they are given isn't changed, nor kept.
func mustTell(t *testing.T, list []status.Entry) {
	t.Helper()
	wantBody, wantErr := bodyOf(list)
	wantLine := lineOf(list)
	for range 2 {
		theirs, all := given(list, odd)
		body, err := status.Body(theirs)
		line := status.Line(theirs)
		if !slices.Equal(all, append(slices.Clone(list), odd, odd, odd)) {
			t.Fatalf("what Body and Line were given is changed: %v, it was %v", all, list)
		}
		scribble(all, odd)
		if !isError(err, wantErr) || !bytes.Equal(body, wantBody) {
			t.Fatalf("Body of %v: % x, %v, not % x, %v", list, body, err, wantBody, wantErr)
		}
		if line != wantLine {
			t.Fatalf("Line of %v: %q, not %q", list, line, wantLine)
		}
		if err == nil {
			mustBack(t, body, list)
		}
		scribble(body, '?')
	}
}

// mustBack holds Parse of a list's body: the entries as they were, and it
// doesn't ask.
func mustBack(t *testing.T, body []byte, list []status.Entry) {
	t.Helper()
	back, asks, err := status.Parse(body)
	if !slices.Equal(back, list) || asks || err != nil {
		t.Fatalf("Parse of % x: %v, %v, %v, not %v", body, back, asks, err, list)
	}
}

// mustRead holds Parse of bytes against the model, twice: writing over what it
// answered turns nothing. What it is given isn't changed, nor kept.
func mustRead(t *testing.T, b []byte) {
	t.Helper()
	want, wantAsks, wantErr := parsed(b)
	for range 2 {
		theirs, all := given(b, '#')
		list, asks, err := status.Parse(theirs)
		if string(all) != string(b)+"###" {
			t.Fatalf("Parse changed what it was given: % .60x, it was % .60x", all, b)
		}
		scribble(all, '?')
		if !isError(err, wantErr) || asks != wantAsks {
			t.Fatalf("Parse of % .60x: %v, %v, not %v, %v", b, asks, err, wantAsks, wantErr)
		}
		if !slices.Equal(list, want) {
			t.Fatalf("Parse of % .60x: %v, not %v", b, list, want)
		}
		scribble(list, odd)
	}
}

// mustFail holds Parse of bytes: an error, and zero values beside it.
func mustFail(t *testing.T, b []byte, want error) {
	t.Helper()
	if list, asks, err := status.Parse(b); len(list) != 0 || asks || !errors.Is(err, want) {
		t.Fatalf("Parse of % .60x: %v, %v, %v, not %v", b, list, asks, err, want)
	}
	mustRead(t, b)
}

// heard lets a table hear a verb of options, in their order.
func heard(t *testing.T, x *table.Table, verb int, options ...int) {
	t.Helper()
	for _, option := range options {
		if _, err := x.Hear(verb, option); err != nil {
			t.Fatalf("Hear of %d, %d: %v", verb, option, err)
		}
	}
}

// asked asks a table for options to be on, or off, in their order.
func asked(t *testing.T, x *table.Table, side int, on bool, options ...int) {
	t.Helper()
	for _, option := range options {
		if _, err := x.Ask(side, option, on); err != nil {
			t.Fatalf("Ask of %d, %d, %v: %v", side, option, on, err)
		}
	}
}

// agreeing is a new table that agrees to each option, on both sides.
func agreeing() *table.Table { return table.New(table.Policy{Us: every(), Him: every()}) }

func TestExample(t *testing.T) {
	if line := status.Line([]status.Entry{{Verb: will, Option: 1}, {Verb: do, Option: 3}}); line != "will echo, do sga" {
		t.Errorf("the line is %q", line)
	}
}

// P17.1: no table has no report.
func TestOfNil(t *testing.T) {
	if list := status.Of(nil); len(list) != 0 {
		t.Errorf("Of nil: %v", list)
	}
}

// P17.1: of a new table nothing is told, whatever it agrees to.
func TestOfNew(t *testing.T) {
	for _, p := range []table.Policy{
		{},
		{Us: []int{1, 3}, Him: []int{0}},
		{Us: every(), Him: every()},
		{Us: []int{-1, 256}, Him: []int{math.MinInt, math.MaxInt}},
	} {
		mustReport(t, table.New(p), nil)
	}
}

// P17.1: WILL and each option that is on at Us, rising, in whatever order they
// came to be on.
func TestOfUs(t *testing.T) {
	for _, row := range []struct{ turned, want []int }{
		{[]int{0}, []int{0}},
		{[]int{255}, []int{255}},
		{[]int{3, 1}, []int{1, 3}},
		{[]int{34, 0, 24, 255, 31, 5}, []int{0, 5, 24, 31, 34, 255}},
		{[]int{200, 100, 200}, []int{100, 200}},
	} {
		x := agreeing()
		heard(t, x, do, row.turned...)
		mustReport(t, x, report(row.want, nil))
	}
}

// P17.1: DO and each option that is on at Him, rising, in whatever order they
// came to be on.
func TestOfHim(t *testing.T) {
	for _, row := range []struct{ turned, want []int }{
		{[]int{0}, []int{0}},
		{[]int{255}, []int{255}},
		{[]int{3, 1}, []int{1, 3}},
		{[]int{34, 0, 24, 255, 31, 5}, []int{0, 5, 24, 31, 34, 255}},
		{[]int{200, 100, 200}, []int{100, 200}},
	} {
		x := agreeing()
		heard(t, x, will, row.turned...)
		mustReport(t, x, report(nil, row.want))
	}
}

// P17.1: all of Us stand ahead of all of Him, whatever the options are.
func TestOfBoth(t *testing.T) {
	x := agreeing()
	heard(t, x, will, 1, 255, 0)
	heard(t, x, do, 7, 2)
	mustReport(t, x, report([]int{2, 7}, []int{0, 1, 255}))
	heard(t, x, do, 255, 1)
	mustReport(t, x, report([]int{1, 2, 7, 255}, []int{0, 1, 255}))
	if line := status.Line(status.Of(x)); line != "will echo, will 2, will 7, will 255, do binary, do echo, do 255" {
		t.Errorf("the line is %q", line)
	}
}

// P17.1: each option alone, at Us, at Him, and at both.
func TestOfEachOption(t *testing.T) {
	for option := range 256 {
		one := []int{option}
		ours, his, both := agreeing(), agreeing(), agreeing()
		heard(t, ours, do, option)
		heard(t, his, will, option)
		heard(t, both, will, option)
		heard(t, both, do, option)
		mustReport(t, ours, report(one, nil))
		mustReport(t, his, report(nil, one))
		mustReport(t, both, report(one, one))
	}
}

// P17.1: of all options on both sides there are 512 entries, which no body tells.
func TestOfAll(t *testing.T) {
	x := agreeing()
	back := every()
	slices.Reverse(back)
	heard(t, x, will, back...)
	heard(t, x, do, back...)
	mustReport(t, x, report(every(), every()))
	list := status.Of(x)
	if len(list) != 512 {
		t.Errorf("there are %d entries", len(list))
	}
	mustTell(t, list)
}

// P17.1: what isn't agreed to isn't on.
func TestOfNotAgreed(t *testing.T) {
	x := table.New(table.Policy{Us: []int{1}, Him: []int{3}})
	heard(t, x, do, 0, 1, 2, 3)
	heard(t, x, will, 0, 1, 2, 3)
	mustReport(t, x, report([]int{1}, []int{3}))
}

// P17.1: what is asked for is told when its answer has come, not before.
func TestOfAsked(t *testing.T) {
	x := table.New(table.Policy{})
	asked(t, x, us, true, 24, 31)
	asked(t, x, him, true, 3, 1)
	mustReport(t, x, nil)
	heard(t, x, do, 31)
	heard(t, x, will, 3)
	mustReport(t, x, report([]int{31}, []int{3}))
	heard(t, x, dont, 24)
	heard(t, x, will, 1)
	mustReport(t, x, report([]int{31}, []int{1, 3}))
	asked(t, x, us, true, 24)
	asked(t, x, us, false, 24)
	mustReport(t, x, report([]int{31}, []int{1, 3}))
	heard(t, x, do, 24)
	mustReport(t, x, report([]int{31}, []int{1, 3}))
}

// P17.1: what is off again isn't told, as soon as it is asked for or heard; on
// once more it is.
func TestOfOff(t *testing.T) {
	x := agreeing()
	heard(t, x, do, 1, 3, 24)
	heard(t, x, will, 1, 3, 24)
	mustReport(t, x, report([]int{1, 3, 24}, []int{1, 3, 24}))
	heard(t, x, dont, 3)
	mustReport(t, x, report([]int{1, 24}, []int{1, 3, 24}))
	heard(t, x, wont, 1)
	mustReport(t, x, report([]int{1, 24}, []int{3, 24}))
	asked(t, x, us, false, 24)
	asked(t, x, him, false, 3)
	mustReport(t, x, report([]int{1}, []int{24}))
	asked(t, x, us, true, 24)
	mustReport(t, x, report([]int{1}, []int{24}))
	heard(t, x, dont, 24)
	heard(t, x, wont, 3)
	mustReport(t, x, report([]int{1}, []int{24}))
	heard(t, x, do, 24, 3)
	mustReport(t, x, report([]int{1, 3, 24}, []int{24}))
	heard(t, x, dont, 1, 3, 24)
	heard(t, x, wont, 24)
	mustReport(t, x, nil)
}

// P17.1: a report that was answered stays as it is when the table turns.
func TestOfApart(t *testing.T) {
	x := agreeing()
	heard(t, x, do, 1)
	heard(t, x, will, 3)
	first, second := status.Of(x), status.Of(x)
	scribble(first, odd)
	heard(t, x, do, 0)
	heard(t, x, wont, 3)
	if !slices.Equal(second, report([]int{1}, []int{3})) {
		t.Errorf("the report is %v now", second)
	}
	mustReport(t, x, report([]int{0, 1}, nil))
}

// P17.1: the body that asks is the one byte 1, a new one each time; Parse of it
// asks (P17.2).
func TestAsk(t *testing.T) {
	for range 3 {
		b := status.Ask()
		if !bytes.Equal(b, []byte{1}) {
			t.Fatalf("Ask: % x", b)
		}
		if list, asks, err := status.Parse(b); len(list) != 0 || !asks || err != nil {
			t.Fatalf("Parse of it: %v, %v, %v", list, asks, err)
		}
		scribble(b, '?')
	}
}

// P17.1, P17.2: the body of no entries is one byte, 0.
func TestBodyOfNone(t *testing.T) {
	for _, list := range [][]status.Entry{nil, {}, many(3)[:0]} {
		body, err := status.Body(list)
		if err != nil || !bytes.Equal(body, []byte{0}) {
			t.Errorf("Body of none: % x, %v", body, err)
		}
		mustTell(t, list)
	}
}

// P17.1: bodies that are written down.
func TestBodiesWrittenDown(t *testing.T) {
	for _, row := range []struct {
		list []status.Entry
		want []byte
	}{
		{[]status.Entry{{will, 1}}, []byte{0, 251, 1}},
		{[]status.Entry{{will, 1}, {do, 3}}, []byte{0, 251, 1, 253, 3}},
		{[]status.Entry{{do, 3}, {will, 1}}, []byte{0, 253, 3, 251, 1}},
		{[]status.Entry{{wont, 0}}, []byte{0, 252, 0}},
		{[]status.Entry{{dont, 255}}, []byte{0, 254, 255}},
		{[]status.Entry{{will, 255}, {will, 255}, {dont, 240}}, []byte{0, 251, 255, 251, 255, 254, 240}},
		{[]status.Entry{{dont, 254}, {do, 253}, {wont, 252}, {will, 251}}, []byte{0, 254, 254, 253, 253, 252, 252, 251, 251}},
	} {
		if got, err := status.Body(row.list); err != nil || !bytes.Equal(got, row.want) {
			t.Errorf("Body of %v: % x, %v, not % x", row.list, got, err, row.want)
		}
		mustTell(t, row.list)
		mustRead(t, row.want)
	}
}

// P17.1, P17.2: each verb with each option.
func TestBodyOfEach(t *testing.T) {
	for _, verb := range verbs {
		for option := range 256 {
			e := status.Entry{Verb: verb, Option: option}
			if got, err := status.Body([]status.Entry{e}); err != nil || !bytes.Equal(got, []byte{0, byte(verb), byte(option)}) {
				t.Fatalf("Body of %v: % x, %v", e, got, err)
			}
			mustTell(t, []status.Entry{e})
			mustTell(t, []status.Entry{{dont, 7}, e, {will, 9}, e})
		}
	}
}

// P17.1, P17.2: as many entries as a body may tell, and more.
func TestBodyOfMany(t *testing.T) {
	for _, n := range []int{1, 2, 3, 60, 118, 119, 120} {
		body, err := status.Body(many(n))
		if err != nil || len(body) != 1+2*n {
			t.Errorf("Body of %d: %d bytes, %v", n, len(body), err)
		}
		mustTell(t, many(n))
	}
	for _, n := range []int{121, 122, 127, 128, 200, 240, 241, 255, 256, 257, 300, 376, 512, 1 << 16, 1<<16 + 3} {
		if body, err := status.Body(many(n)); len(body) != 0 || !errors.Is(err, api.ErrLong) {
			t.Errorf("Body of %d: % x, %v", n, body, err)
		}
		mustTell(t, many(n))
	}
}

// P17.1: more than 120 entries are ErrLong, whatever they are.
func TestBodyLongOfWrong(t *testing.T) {
	for _, e := range []status.Entry{{}, {0, 1}, {250, 1}, {will, 256}, {do, -1}, {255, 255}, {-1, -1}, {math.MinInt, math.MaxInt}} {
		for _, n := range []int{121, 122, 300} {
			for _, at := range []int{0, 1, 119, 120, n - 1} {
				list := many(n)
				list[at] = e
				if body, err := status.Body(list); len(body) != 0 || !errors.Is(err, api.ErrLong) {
					t.Fatalf("Body of %d with %v at %d: % x, %v", n, e, at, body, err)
				}
			}
		}
		all := make([]status.Entry, 121)
		scribble(all, e)
		if body, err := status.Body(all); len(body) != 0 || !errors.Is(err, api.ErrLong) {
			t.Errorf("Body of 121 times %v: % x, %v", e, body, err)
		}
	}
}

// P17.1: each number that is no verb is ErrKind, with whatever option, at each
// place.
func TestBodyOfNoVerb(t *testing.T) {
	for _, verb := range noVerbs() {
		for _, option := range []int{0, 1, 255, 256, -1, math.MinInt, math.MaxInt} {
			e := status.Entry{Verb: verb, Option: option}
			if body, err := status.Body([]status.Entry{e}); len(body) != 0 || !errors.Is(err, api.ErrKind) {
				t.Fatalf("Body of %v: % x, %v", e, body, err)
			}
		}
		mustTell(t, []status.Entry{{verb, 3}})
		mustTell(t, []status.Entry{{will, 1}, {verb, 3}})
		mustTell(t, []status.Entry{{verb, 3}, {will, 1}})
		mustTell(t, append(many(119), status.Entry{Verb: verb, Option: 3}))
	}
}

// P17.1: each number that is no option is ErrRange, with whatever verb, at each
// place.
func TestBodyOfNoOption(t *testing.T) {
	for _, option := range noOptions() {
		for _, verb := range verbs {
			e := status.Entry{Verb: verb, Option: option}
			if body, err := status.Body([]status.Entry{e}); len(body) != 0 || !errors.Is(err, api.ErrRange) {
				t.Fatalf("Body of %v: % x, %v", e, body, err)
			}
		}
		mustTell(t, []status.Entry{{do, option}})
		mustTell(t, []status.Entry{{will, 1}, {do, option}})
		mustTell(t, []status.Entry{{do, option}, {will, 1}})
		mustTell(t, append(many(119), status.Entry{Verb: dont, Option: option}))
	}
}

// P17.1: which error Body tells, where two would be true: of an entry that of
// its verb, of a list that of the first one that is wrong.
func TestBodyErrors(t *testing.T) {
	for _, row := range []struct {
		list []status.Entry
		err  error
	}{
		{[]status.Entry{{0, 256}}, api.ErrKind},
		{[]status.Entry{{255, -1}}, api.ErrKind},
		{[]status.Entry{{250, 1}, {will, 256}}, api.ErrKind},
		{[]status.Entry{{will, 256}, {250, 1}}, api.ErrRange},
		{[]status.Entry{{do, -1}, {do, 1}, {0, 0}}, api.ErrRange},
		{[]status.Entry{{do, 1}, {0, 0}, {do, -1}}, api.ErrKind},
		{[]status.Entry{{do, 1}, {0, -1}, {do, -1}}, api.ErrKind},
		{[]status.Entry{{will, 256}, {0, 256}}, api.ErrRange},
		{append(many(118), status.Entry{Verb: will, Option: 256}, status.Entry{Verb: 1, Option: 1}), api.ErrRange},
		{append(many(118), status.Entry{Verb: 1, Option: 1}, status.Entry{Verb: will, Option: 256}), api.ErrKind},
		{append(many(119), status.Entry{Verb: 1, Option: 1}, status.Entry{Verb: will, Option: 256}), api.ErrLong},
	} {
		if body, err := status.Body(row.list); len(body) != 0 || !errors.Is(err, row.err) {
			t.Errorf("Body of %v: % x, %v, not %v", row.list, body, err, row.err)
		}
		mustTell(t, row.list)
	}
}

// P17.1: bodies apart: what was answered isn't changed by what is asked later.
func TestBodyApart(t *testing.T) {
	list := many(5)
	first, err := status.Body(list)
	if err != nil {
		t.Fatal(err)
	}
	was := bytes.Clone(first)
	scribble(list, odd)
	second, _ := status.Body(many(9))
	scribble(second, '?')
	if !bytes.Equal(first, was) {
		t.Errorf("the body is % x, it was % x", first, was)
	}
}

// P17.1: Parse of no bytes, of the one that asks, and of one with more behind.
func TestParseOfFew(t *testing.T) {
	mustFail(t, nil, api.ErrShort)
	mustFail(t, []byte{}, api.ErrShort)
	if list, asks, err := status.Parse([]byte{1}); len(list) != 0 || !asks || err != nil {
		t.Errorf("Parse of 1: %v, %v, %v", list, asks, err)
	}
	if list, asks, err := status.Parse([]byte{0}); len(list) != 0 || asks || err != nil {
		t.Errorf("Parse of 0: %v, %v, %v", list, asks, err)
	}
	mustRead(t, []byte{1})
	mustRead(t, []byte{0})
	for c := range 256 {
		mustFail(t, []byte{1, byte(c)}, api.ErrLong)
		mustFail(t, []byte{1, will, byte(c)}, api.ErrLong)
	}
	for _, n := range []int{2, 3, 240, 241, 255, 256, 1 << 16} {
		mustFail(t, append([]byte{1}, make([]byte, n)...), api.ErrLong)
	}
}

// P17.1: each first byte above 1 is ErrForm, alone and with more behind.
func TestParseOfNoForm(t *testing.T) {
	for first := 2; first < 256; first++ {
		for _, behind := range [][]byte{nil, {0}, {1}, {will}, {will, 1}, {will, 1, do}, {9, 9}, make([]byte, 300)} {
			mustFail(t, append([]byte{byte(first)}, behind...), api.ErrForm)
		}
	}
}

// P17.1: Parse of each two bytes behind a 0, and of each one.
func TestParseOfEachTwo(t *testing.T) {
	for a := range 256 {
		mustFail(t, []byte{0, byte(a)}, api.ErrShort)
		for b := range 256 {
			body := []byte{0, byte(a), byte(b)}
			list, asks, err := status.Parse(body)
			want, _, wantErr := parsed(body)
			if !slices.Equal(list, want) || asks || !isError(err, wantErr) {
				t.Fatalf("Parse of % x: %v, %v, %v, not %v, %v", body, list, asks, err, want, wantErr)
			}
		}
	}
}

// P17.1: an odd number of bytes behind a 0 is ErrShort, also where one of them
// is no verb.
func TestParseOfOdd(t *testing.T) {
	for _, behind := range [][]byte{
		{will}, {0}, {9}, {255}, {will, 1, do}, {will, 1, 9}, {9, 1, do}, {9, 9, 9}, {will, 1, 9, 1, do}, {9, 1, do, 3, will},
		make([]byte, 239), make([]byte, 241), bytes.Repeat([]byte{will}, 241), make([]byte, 1<<16+1),
	} {
		mustFail(t, append([]byte{0}, behind...), api.ErrShort)
	}
	for n := 1; n <= 41; n++ {
		body, err := status.Body(many(n))
		if err != nil {
			t.Fatal(err)
		}
		mustFail(t, body[:len(body)-1], api.ErrShort)
		mustFail(t, append(body, will), api.ErrShort)
	}
}

// P17.1: an entry that begins with no verb is ErrKind, at the first entry, in
// the middle and at the last one.
func TestParseOfNoVerb(t *testing.T) {
	for c := range 256 {
		if isVerb(c) {
			continue
		}
		for _, n := range []int{1, 2, 3, 9, 120, 121, 300} {
			for _, at := range []int{0, n / 2, n - 1} {
				body := append([]byte{0}, bytes.Repeat([]byte{do, 3}, n)...)
				body[1+2*at] = byte(c)
				mustFail(t, body, api.ErrKind)
			}
		}
	}
}

// P17.1: a body that comes may tell more than 120 entries.
func TestParseOfMany(t *testing.T) {
	for _, n := range []int{119, 120, 121, 122, 127, 128, 129, 255, 256, 257, 1000, 1 << 15, 1 << 17} {
		body := []byte{0}
		for _, e := range many(n) {
			body = append(body, byte(e.Verb), byte(e.Option))
		}
		mustBack(t, body, many(n))
		mustRead(t, body)
	}
}

// P17.1: reports that were parsed are apart.
func TestParseApart(t *testing.T) {
	body := []byte{0, will, 1, do, 3}
	first, _, _ := status.Parse(body)
	second, _, _ := status.Parse(body)
	scribble(second, odd)
	scribble(body, 9)
	if line := status.Line(first); line != "will echo, do sga" {
		t.Errorf("the report is %q now", line)
	}
}

// P17.1: lines that are written down.
func TestLinesWrittenDown(t *testing.T) {
	for _, row := range []struct {
		list []status.Entry
		want string
	}{
		{nil, ""},
		{[]status.Entry{}, ""},
		{[]status.Entry{{will, 1}}, "will echo"},
		{[]status.Entry{{wont, 0}}, "wont binary"},
		{[]status.Entry{{dont, 255}}, "dont 255"},
		{[]status.Entry{{do, 31}, {do, 24}}, "do naws, do ttype"},
		{[]status.Entry{{will, 5}, {wont, 6}, {do, 34}, {dont, 2}}, "will status, wont mark, do linemode, dont 2"},
		{[]status.Entry{{240, 1}, {255, 1}}, "se echo, iac echo"},
		{[]status.Entry{{239, 1}, {256, 1}}, "? echo, ? echo"},
		{[]status.Entry{{will, -1}, {will, 256}}, "will ?, will ?"},
		{[]status.Entry{{}}, "? binary"},
		{[]status.Entry{{-1, -1}}, "? ?"},
		{[]status.Entry{{math.MaxInt, math.MinInt}, {do, 3}, {math.MinInt, math.MaxInt}}, "? ?, do sga, ? ?"},
		{[]status.Entry{{will, 1}, {will, 1}, {will, 1}}, "will echo, will echo, will echo"},
	} {
		if got := status.Line(row.list); got != row.want {
			t.Errorf("Line of %v: %q, not %q", row.list, got, row.want)
		}
		mustTell(t, row.list)
	}
}

// P17.1: a line of each number as a verb and as an option.
func TestLineOfEach(t *testing.T) {
	for _, n := range numbers() {
		mustTell(t, []status.Entry{{n, 1}})
		mustTell(t, []status.Entry{{do, n}})
		mustTell(t, []status.Entry{{n, n}, {will, 1}, {n, n}})
	}
}

// P17.1: a line has no bound.
func TestLineOfMany(t *testing.T) {
	for _, n := range []int{120, 121, 512, 1 << 14} {
		if got, want := status.Line(many(n)), lineOf(many(n)); got != want {
			t.Errorf("Line of %d: %d bytes, not %d", n, len(got), len(want))
		}
	}
}

// someEntry is an entry by chance, mostly a right one.
func someEntry(chance *rand.Rand) status.Entry {
	e := status.Entry{Verb: verbs[chance.Intn(4)], Option: chance.Intn(256)}
	switch chance.Intn(40) {
	case 0:
		e.Verb = chance.Intn(400) - 100
	case 1:
		e.Option = chance.Intn(800) - 300
	case 2:
		e.Verb, e.Option = e.Verb+256*(chance.Intn(5)-2), e.Option+256*(chance.Intn(5)-2)
	}
	return e
}

// someList is entries by chance, few or many.
func someList(chance *rand.Rand) []status.Entry {
	list := make([]status.Entry, chance.Intn([]int{2, 6, 20, 124, 140}[chance.Intn(5)]))
	right := chance.Intn(2) == 0
	for i := range list {
		list[i] = someEntry(chance)
		if right {
			list[i] = status.Entry{Verb: verbs[chance.Intn(4)], Option: chance.Intn(256)}
		}
	}
	return list
}

// someBody is bytes by chance, mostly a body, or nearly one.
func someBody(chance *rand.Rand) []byte {
	b := []byte{byte(chance.Intn(8) / 6)}
	for range chance.Intn([]int{2, 6, 20, 140}[chance.Intn(4)]) {
		b = append(b, byte(verbs[chance.Intn(4)]), byte(chance.Intn(256)))
	}
	switch chance.Intn(6) {
	case 0:
		b[0] = byte(chance.Intn(256))
	case 1:
		b[chance.Intn(len(b))] = byte(chance.Intn(256))
	case 2:
		b = b[:chance.Intn(len(b)+1)]
	case 3:
		b = append(b, byte(chance.Intn(256)))
	}
	return b
}

// P17.1, P17.2: lists and bodies by chance.
func TestByChance(t *testing.T) {
	chance := rand.New(rand.NewSource(17))
	for range 12000 {
		mustTell(t, someList(chance))
		mustRead(t, someBody(chance))
	}
}

// P17.1, P17.2: tables by chance, whose reports come back from their bodies.
func TestTablesByChance(t *testing.T) {
	chance := rand.New(rand.NewSource(71))
	for range 60 {
		few := 1 + chance.Intn(256)
		options := make([]int, 1+chance.Intn(300))
		for i := range options {
			options[i] = chance.Intn(few)
		}
		x := table.New(table.Policy{Us: options[:len(options)/2], Him: options[len(options)/3:]})
		for range 120 {
			for range 1 + chance.Intn(6) {
				option := chance.Intn(few)
				if chance.Intn(3) == 0 {
					x.Ask(sides[chance.Intn(2)], option, chance.Intn(2) == 0)
				} else {
					x.Hear(verbs[chance.Intn(4)], option)
				}
			}
			want := reportOf(x)
			mustReport(t, x, want)
			mustTell(t, want)
		}
	}
}

// No numbers and no bytes make a call panic, or are answered otherwise than they
// should be.
func FuzzCalls(f *testing.F) {
	f.Add(251, 1, 253, 3, []byte{0, 251, 1, 253, 3})
	f.Add(0, -1, 256, 255, []byte{1})
	f.Add(math.MinInt, math.MaxInt, 254, 0, []byte{2, 251})
	f.Fuzz(func(t *testing.T, a, b, c, d int, body []byte) {
		mustTell(t, []status.Entry{{a, b}})
		mustTell(t, []status.Entry{{a, b}, {c, d}})
		mustTell(t, slices.Repeat([]status.Entry{{c, d}}, len(body)))
		mustRead(t, body)
		mustRead(t, append([]byte{0}, body...))
	})
}
