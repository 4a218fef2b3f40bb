package subneg_test

import (
	"bytes"
	"errors"
	"math"
	"slices"
	"testing"

	"truchman/api"
	"truchman/iac"
	"truchman/mask"
	"truchman/naws"
	"truchman/qstate"
	"truchman/slc"
	"truchman/status"
	"truchman/subneg"
	"truchman/table"
)

// Sides, verbs, options and kinds of tokens by their numbers, as layers 11, 4
// and 5 have them.
const (
	us, him                                = 0, 1
	will, wont, do, dont                   = 251, 252, 253, 254
	optStatus, optTtype, optNaws, optLines = 5, 24, 31, 34
	sub                                    = 4
)

// Levels of settings and bits of masks, as layers 14 and 15 have them.
const (
	none, cant, value, deflt   = 0, 1, 2, 3
	edit, trap, ack, soft, lit = 1, 2, 4, 8, 16
	functions                  = 18
)

// options is the options of which something is heard.
var options = []int{optStatus, optTtype, optNaws, optLines}

// one is one subnegotiation of these bytes.
func one(option int, body ...byte) []subneg.Sub {
	return []subneg.Sub{{Option: option, Body: body}}
}

// typeBody is a type's body.
func typeBody(name string) []byte { return append([]byte{0}, name...) }

// model is what a hub should hold, told plainly.
type model struct {
	size    naws.Size
	cycle   []string // as it answers: the last type stands in it twice
	told    int
	holds   map[int]slc.Setting
	can     int
	peer    naws.Size
	names   []string
	whole   bool
	report  []status.Entry
	has     map[int]slc.Setting
	waits   map[int]bool
	head    int
	waiting bool
	tail    int
	mask    []byte // the bytes that are in
	masked  bool
}

// newModel is what a hub of such a Config should hold at first.
func newModel(c subneg.Config) *model {
	m := &model{size: c.Size, can: c.Can, holds: map[int]slc.Setting{}}
	m.cycle = append(slices.Clone(c.Types), c.Types[len(c.Types)-1])
	for i, x := range c.Holds {
		if i < functions && isSetting(x) && x.Level != deflt && x.Level != none {
			m.holds[i+1] = x
		}
	}
	m.linesAsAtFirst()
	return m
}

// linesAsAtFirst takes back all that hangs on Linemode.
func (m *model) linesAsAtFirst() {
	m.has, m.waits = map[int]slc.Setting{}, map[int]bool{}
	m.head, m.waiting, m.tail = 0, false, 0
	m.mask, m.masked = nil, false
}

// isSetting is whether a setting should be right.
func isSetting(x slc.Setting) bool {
	if x.Level == none || x.Level == deflt {
		return x.Value == 0
	}
	return (x.Level == cant || x.Level == value) && 0 <= x.Value && x.Value < 256
}

// isMask is whether a number should be a mask.
func isMask(n int) bool {
	return slices.Contains([]int{0, 1, 2, 3, 8, 9, 10, 11, 16, 17, 18, 19, 24, 25, 26, 27}, n)
}

// isVerb is whether a number should be a verb.
func isVerb(n int) bool { return will <= n && n <= dont }

// isType is whether a text should be a type.
func isType(name string) bool {
	for _, c := range []byte(name) {
		if c <= 32 || c >= 127 {
			return false
		}
	}
	return 0 < len(name) && len(name) <= 24
}

// isOn is whether an option should be on at a side of a table.
func isOn(x *table.Table, side, option int) bool {
	return x.State(side, option) == qstate.State{Kind: qstate.Yes}
}

// hear is what Hear should answer.
func (m *model) hear(x *table.Table, k iac.Token) ([]subneg.Sub, error) {
	switch {
	case x == nil:
		return nil, api.ErrNone
	case k.Kind != sub:
		return nil, api.ErrKind
	case k.Cut:
		return nil, api.ErrLong
	}
	switch k.Option {
	case optNaws:
		return m.hearSize(x, k.Body)
	case optTtype:
		return m.hearType(x, k.Body)
	case optStatus:
		return m.hearStatus(x, k.Body)
	case optLines:
		return m.hearLines(x, k.Body)
	}
	return nil, api.ErrName
}

func (m *model) hearSize(x *table.Table, b []byte) ([]subneg.Sub, error) {
	switch {
	case len(b) <= 3:
		return nil, api.ErrShort
	case len(b) >= 5:
		return nil, api.ErrLong
	case !isOn(x, him, optNaws):
		return nil, api.ErrState
	}
	m.peer = naws.Size{Cols: 256*int(b[0]) + int(b[1]), Rows: 256*int(b[2]) + int(b[3])}
	return nil, nil
}

func (m *model) hearType(x *table.Table, b []byte) ([]subneg.Sub, error) {
	switch {
	case len(b) == 0:
		return nil, api.ErrShort
	case b[0] > 1:
		return nil, api.ErrForm
	case b[0] == 1 && len(b) > 1:
		return nil, api.ErrLong
	case b[0] == 1 && !isOn(x, us, optTtype):
		return nil, api.ErrState
	case b[0] == 1:
		name := m.cycle[m.told%len(m.cycle)]
		m.told++
		return one(optTtype, typeBody(name)...), nil
	case !isType(string(b[1:])):
		return nil, api.ErrName
	case !isOn(x, him, optTtype):
		return nil, api.ErrState
	}
	m.take(string(b[1:]))
	if m.whole {
		return nil, nil
	}
	return one(optTtype, 1), nil
}

// take takes a type that is right.
func (m *model) take(name string) {
	n := len(m.names)
	if !m.whole && n > 0 && m.names[n-1] == name {
		m.whole = true
	}
	if !m.whole {
		m.names = append(m.names, name)
		m.whole = n+1 == 8
	}
}

func (m *model) hearStatus(x *table.Table, b []byte) ([]subneg.Sub, error) {
	switch {
	case len(b) == 0:
		return nil, api.ErrShort
	case b[0] == 1 && len(b) > 1:
		return nil, api.ErrLong
	case b[0] > 1:
		return nil, api.ErrForm
	case b[0] == 1 && !isOn(x, us, optStatus):
		return nil, api.ErrState
	case b[0] == 1:
		return reportOf(x)
	case len(b)%2 == 0:
		return nil, api.ErrShort
	}
	var list []status.Entry
	for pair := range slices.Chunk(b[1:], 2) {
		if !isVerb(int(pair[0])) {
			return nil, api.ErrKind
		}
		list = append(list, status.Entry{Verb: int(pair[0]), Option: int(pair[1])})
	}
	if !isOn(x, him, optStatus) {
		return nil, api.ErrState
	}
	m.report = list
	return nil, nil
}

// reportOf is what should be told of a table.
func reportOf(x *table.Table) ([]subneg.Sub, error) {
	b := []byte{0}
	for side, verb := range []byte{will, do} {
		for option := range 256 {
			if isOn(x, side, option) {
				b = append(b, verb, byte(option))
			}
		}
	}
	if len(b) > 241 {
		return nil, api.ErrLong
	}
	return one(optStatus, b...), nil
}

func (m *model) hearLines(x *table.Table, b []byte) ([]subneg.Sub, error) {
	switch {
	case len(b) == 0:
		return nil, api.ErrShort
	case b[0] == 1 && isOn(x, us, optLines):
		return m.tailHears(b)
	case b[0] == 1 && isOn(x, him, optLines):
		return nil, m.headHears(b)
	case b[0] == 1:
		return nil, api.ErrState
	case b[0] == 3 && !isOn(x, us, optLines) && !isOn(x, him, optLines):
		return nil, api.ErrState
	case b[0] == 3:
		return m.sideHears(b[1:])
	case isVerb(int(b[0])):
		return m.hearMask(x, b)
	}
	return nil, api.ErrKind
}

// modeOf is the mask of a body of two bytes, and whether it is an answer.
func modeOf(b []byte) (mask int, is bool, err error) {
	switch {
	case len(b) == 1:
		return 0, false, api.ErrShort
	case len(b) > 2:
		return 0, false, api.ErrLong
	}
	n := int(b[1])
	if n&ack != 0 {
		n, is = n-ack, true
	}
	if !isMask(n) {
		return 0, false, api.ErrForm
	}
	return n, is, nil
}

func (m *model) tailHears(b []byte) ([]subneg.Sub, error) {
	n, is, err := modeOf(b)
	switch {
	case err != nil:
		return nil, err
	case is:
		return nil, api.ErrState
	}
	m.tail = 0
	for _, bit := range []int{edit, trap, soft, lit} {
		if n&bit != 0 && m.can&bit != 0 {
			m.tail += bit
		}
	}
	return one(optLines, 1, byte(m.tail+ack)), nil
}

func (m *model) headHears(b []byte) error {
	n, is, err := modeOf(b)
	switch {
	case err != nil:
		return err
	case !is || !m.waiting:
		return api.ErrState
	}
	m.head, m.waiting = n, false
	return nil
}

func (m *model) sideHears(b []byte) ([]subneg.Sub, error) {
	if len(b)%3 != 0 {
		return nil, api.ErrShort
	}
	told := []byte{3}
	for x := range slices.Chunk(b, 3) {
		s := slc.Setting{Level: int(x[1]) % 4, Value: int(x[2])}
		if x[0] == 0 || x[0] > functions || !isSetting(s) {
			continue
		}
		told = append(told, m.hearTriple(int(x[0]), s, x[1] >= 128)...)
	}
	if len(told) == 1 {
		return nil, nil
	}
	return one(optLines, told...), nil
}

// hearTriple is the bytes that are told on a triple that is right, if any are.
func (m *model) hearTriple(f int, s slc.Setting, is bool) []byte {
	delete(m.waits, f)
	if is || s == m.has[f] {
		return nil
	}
	answer := m.holds[f]
	agrees := false
	switch {
	case s.Level == none:
		answer, agrees = s, true
	case s.Level != deflt && m.holds[f].Level == value:
		answer, agrees = s, true
	case s.Level == cant:
		answer = slc.Setting{}
	}
	m.has[f] = answer
	second := byte(answer.Level)
	if agrees {
		second += 128
	}
	return []byte{byte(f), second, byte(answer.Value)}
}

func (m *model) hearMask(x *table.Table, b []byte) ([]subneg.Sub, error) {
	verb := int(b[0])
	speaks := us
	if verb == will || verb == wont {
		speaks = him
	}
	switch {
	case len(b) == 1:
		return nil, api.ErrShort
	case b[1] != 2:
		return nil, api.ErrKind
	case len(b) > 34 || verb != do && len(b) > 2:
		return nil, api.ErrLong
	case !isOn(x, speaks, optLines):
		return nil, api.ErrState
	case verb == do:
		m.mask, m.masked = bytesOf(b[2:]), true
		return one(optLines, will, 2), nil
	case verb == dont:
		m.mask, m.masked = nil, false
		return one(optLines, wont, 2), nil
	}
	return nil, nil
}

// bytesOf is the bytes that a row says are in.
func bytesOf(row []byte) []byte {
	var list []byte
	for i, c := range row {
		for n := range 8 {
			if c&(128>>n) != 0 {
				list = append(list, byte(8*i+n))
			}
		}
	}
	return list
}

// turned is what Turned should answer.
func (m *model) turned(side, option int, on bool) []subneg.Sub {
	switch {
	case option == optNaws && side == us && on:
		c, r := m.size.Cols, m.size.Rows
		return one(optNaws, byte(c/256), byte(c%256), byte(r/256), byte(r%256))
	case option == optNaws && side == him && !on:
		m.peer = naws.Size{}
	case option == optTtype && side == us:
		m.told = 0
	case option == optTtype && side == him && on:
		m.names, m.whole = nil, false
		return one(optTtype, 1)
	case option == optLines && (side == us || side == him):
		m.linesAsAtFirst()
		if side == us && on {
			return m.askAll()
		}
	}
	return nil
}

// askAll is what should be told where our side asks for what it holds.
func (m *model) askAll() []subneg.Sub {
	told := []byte{3}
	for f := 1; f <= functions; f++ {
		if s, is := m.holds[f]; is {
			m.has[f], m.waits[f] = s, true
			told = append(told, byte(f), byte(s.Level), byte(s.Value))
		}
	}
	if len(told) == 1 {
		return nil
	}
	return one(optLines, told...)
}

// set is what Set should answer.
func (m *model) set(x *table.Table, n int) (subneg.Sub, error) {
	switch {
	case x == nil:
		return subneg.Sub{}, api.ErrNone
	case !isOn(x, him, optLines):
		return subneg.Sub{}, api.ErrState
	case !isMask(n):
		return subneg.Sub{}, api.ErrForm
	case m.waiting:
		return subneg.Sub{}, api.ErrState
	case n == m.head:
		return subneg.Sub{}, api.ErrDup
	}
	m.head, m.waiting = n, true
	return subneg.Sub{Option: optLines, Body: []byte{1, byte(n)}}, nil
}

// waitsFor is what Waits should answer.
func (m *model) waitsFor() int {
	if m.waiting {
		return len(m.waits) + 1
	}
	return len(m.waits)
}

// hub is a hub, the table by which it hears, and what it should hold: both are
// asked the same.
type hub struct {
	t  *testing.T
	is *subneg.Hub
	x  *table.Table
	m  *model
}

// newHub is a hub of a Config that is given with room behind its lists, and
// that is written over when the hub is made.
func newHub(t *testing.T, c subneg.Config, x *table.Table) *hub {
	t.Helper()
	m := newModel(c)
	types, allTypes := given(c.Types, "beyond")
	holds, allHolds := given(c.Holds, oddSetting)
	is, err := subneg.New(subneg.Config{Size: c.Size, Types: types, Holds: holds, Can: c.Can})
	if err != nil || is == nil {
		t.Fatalf("New of %v: %v, %v", c, is, err)
	}
	if !slices.Equal(allTypes, append(slices.Clone(c.Types), "beyond", "beyond", "beyond")) ||
		!slices.Equal(allHolds, append(slices.Clone(c.Holds), oddSetting, oddSetting, oddSetting)) {
		t.Fatalf("New of %v changed what it was given", c)
	}
	scribble(allTypes, "other")
	scribble(allHolds, slc.Setting{Level: value, Value: 99})
	h := &hub{t: t, is: is, x: x, m: m}
	h.same()
	return h
}

// same holds what a hub tells of itself against the model, twice: asking turns
// nothing, nor does writing over what is told.
func (h *hub) same() {
	h.t.Helper()
	for range 2 {
		if got := h.is.Peer(); got != h.m.peer {
			h.t.Fatalf("Peer: %v, not %v", got, h.m.peer)
		}
		if got := h.is.Head(); got != h.m.head {
			h.t.Fatalf("Head: %d, not %d", got, h.m.head)
		}
		if got := h.is.Tail(); got != h.m.tail {
			h.t.Fatalf("Tail: %d, not %d", got, h.m.tail)
		}
		if got := h.is.Waits(); got != h.m.waitsFor() {
			h.t.Fatalf("Waits: %d, not %d", got, h.m.waitsFor())
		}
		if got, is := h.is.Mask(); got != rowOf(h.m.mask) || is != h.m.masked {
			h.t.Fatalf("Mask: %v, %v, not %v, %v", got, is, rowOf(h.m.mask), h.m.masked)
		}
		h.sameLists()
		h.sameChars()
	}
}

// sameLists holds the lists that a hub tells of itself against the model.
func (h *hub) sameLists() {
	h.t.Helper()
	types, report := h.is.Types(), h.is.Report()
	if !slices.Equal(types, h.m.names) {
		h.t.Fatalf("Types: %q, not %q", types, h.m.names)
	}
	if !slices.Equal(report, h.m.report) {
		h.t.Fatalf("Report: %v, not %v", report, h.m.report)
	}
	scribble(types, "scribbled")
	scribble(report, status.Entry{Verb: -7, Option: -8})
}

// sameChars holds what our side has of each function against the model.
func (h *hub) sameChars() {
	h.t.Helper()
	for _, f := range []int{math.MinInt, -1<<32 + 1, -1, 0, functions + 1, functions + 2, 129, 257, 1<<32 + 1, math.MaxInt} {
		if got := h.is.Char(f); got != (slc.Setting{}) {
			h.t.Fatalf("Char of %d: %v", f, got)
		}
	}
	for f := 1; f <= functions; f++ {
		if got := h.is.Char(f); got != h.m.has[f] {
			h.t.Fatalf("Char of %d: %v, not %v", f, got, h.m.has[f])
		}
	}
}

// token lets a hub hear a token: what it should tell. What it is given isn't
// changed, nor kept; writing over what it told turns nothing.
func (h *hub) token(k iac.Token) ([]subneg.Sub, error) {
	h.t.Helper()
	want, wantErr := h.m.hear(h.x, k)
	theirs, all := given(k.Body, '#')
	was := copyOf(h.x)
	got, err := h.is.Hear(h.x, iac.Token{Kind: k.Kind, Code: k.Code, Option: k.Option, Body: theirs, Cut: k.Cut})
	if !sameSubs(got, want) || !isError(err, wantErr) {
		h.t.Fatalf("Hear of %d, %d, % .80x: %v, %v, not %v, %v", k.Kind, k.Option, k.Body, got, err, want, wantErr)
	}
	if !bytes.Equal(all, append(slices.Clone(k.Body), "###"...)) {
		h.t.Fatalf("Hear changed what it was given: % .80x, it was % .80x", all, k.Body)
	}
	if copyOf(h.x) != was {
		h.t.Fatalf("Hear of %d, % .80x turned the table", k.Option, k.Body)
	}
	scribble(all, '?')
	scribbleSubs(got)
	h.same()
	return want, wantErr
}

// hear lets a hub hear a body of an option.
func (h *hub) hear(option int, body ...byte) ([]subneg.Sub, error) {
	h.t.Helper()
	return h.token(iac.Token{Kind: sub, Option: option, Body: body})
}

// mustTell lets a hub hear a body: it tells this, and no error.
func (h *hub) mustTell(want []subneg.Sub, option int, body ...byte) {
	h.t.Helper()
	got, err := h.hear(option, body...)
	if !sameSubs(got, want) || err != nil {
		h.t.Fatalf("Hear of %d, % .80x: %v, %v, not %v", option, body, got, err, want)
	}
}

// mustFail lets a hub hear a body: it tells nothing, but an error.
func (h *hub) mustFail(want error, option int, body ...byte) {
	h.t.Helper()
	if got, err := h.hear(option, body...); len(got) != 0 || !errors.Is(err, want) {
		h.t.Fatalf("Hear of %d, % .80x: %v, %v, not %v", option, body, got, err, want)
	}
}

// turn tells a hub that an option turned: what it should tell.
func (h *hub) turn(side, option int, on bool) []subneg.Sub {
	h.t.Helper()
	want := h.m.turned(side, option, on)
	got := h.is.Turned(side, option, on)
	if !sameSubs(got, want) {
		h.t.Fatalf("Turned of %d, %d, %v: %v, not %v", side, option, on, got, want)
	}
	scribbleSubs(got)
	h.same()
	return want
}

// mustTurn tells a hub that an option turned: it tells this.
func (h *hub) mustTurn(want []subneg.Sub, side, option int, on bool) {
	h.t.Helper()
	if got := h.turn(side, option, on); !sameSubs(got, want) {
		h.t.Fatalf("Turned of %d, %d, %v: %v, not %v", side, option, on, got, want)
	}
}

// set lets a hub set a mask of lines: what it should tell.
func (h *hub) set(n int) (subneg.Sub, error) {
	h.t.Helper()
	want, wantErr := h.m.set(h.x, n)
	was := copyOf(h.x)
	got, err := h.is.Set(h.x, n)
	if !sameSubs([]subneg.Sub{got}, []subneg.Sub{want}) || !isError(err, wantErr) {
		h.t.Fatalf("Set of %d: %v, %v, not %v, %v", n, got, err, want, wantErr)
	}
	if copyOf(h.x) != was {
		h.t.Fatalf("Set of %d turned the table", n)
	}
	scribble(got.Body, '?')
	h.same()
	return want, wantErr
}

// mustSet lets a hub set a mask: it tells its body.
func (h *hub) mustSet(n int) {
	h.t.Helper()
	got, err := h.set(n)
	if !sameSubs([]subneg.Sub{got}, one(optLines, 1, byte(n))) || err != nil {
		h.t.Fatalf("Set of %d: %v, %v", n, got, err)
	}
}

// mustNotSet lets a hub set a mask: it answers an error.
func (h *hub) mustNotSet(want error, n int) {
	h.t.Helper()
	if got, err := h.set(n); got.Option != 0 || len(got.Body) != 0 || !errors.Is(err, want) {
		h.t.Fatalf("Set of %d: %v, %v, not %v", n, got, err, want)
	}
}

// rowOf is the mask that has these bytes.
func rowOf(list []byte) mask.Mask {
	var row mask.Mask
	for _, c := range list {
		row[c/8] += 1 << (7 - c%8)
	}
	return row
}

// copyOf is a table's value, to be held against another one.
func copyOf(x *table.Table) table.Table {
	if x == nil {
		return table.Table{}
	}
	return *x
}

// sameSubs is whether two lists tell the same.
func sameSubs(a, b []subneg.Sub) bool {
	return slices.EqualFunc(a, b, func(a, b subneg.Sub) bool {
		return a.Option == b.Option && bytes.Equal(a.Body, b.Body)
	})
}

// isError is whether an error is the one that is asked for.
func isError(got, want error) bool {
	if want == nil {
		return got == nil
	}
	return errors.Is(got, want)
}

// oddSetting is a setting that stands where no call should look.
var oddSetting = slc.Setting{Level: value, Value: 77}

// given is a list, and the same with room behind it that isn't its own.
func given[T any](list []T, beyond T) (theirs, all []T) {
	all = append(slices.Clone(list), beyond, beyond, beyond)
	return all[:len(list)], all
}

// scribble writes over a list, and over the room behind it.
func scribble[T any](list []T, by T) {
	list = list[:cap(list)]
	for i := range list {
		list[i] = by
	}
}

// scribbleSubs writes over what was told.
func scribbleSubs(list []subneg.Sub) {
	for _, x := range list {
		scribble(x.Body, '?')
	}
	scribble(list, subneg.Sub{Option: -9, Body: []byte("scribbled")})
}

// tableOf is a table on which these options are on, at Us and at Him.
func tableOf(t *testing.T, ours, his []int) *table.Table {
	t.Helper()
	x := table.New(table.Policy{Us: ours, Him: his})
	for verb, list := range map[int][]int{do: ours, will: his} {
		for _, option := range list {
			if _, err := x.Hear(verb, option); err != nil {
				t.Fatal(err)
			}
		}
	}
	return x
}

// where is an option that is on at neither side, at Us, at Him, or at both, by
// the number of these.
const atNeither, atUs, atHim, atBoth = 0, 1, 2, 3

// places is all these.
var places = []int{atNeither, atUs, atHim, atBoth}

// tableAt is a table on which options are on there, and nothing else.
func tableAt(t *testing.T, where int, list ...int) *table.Table {
	t.Helper()
	var ours, his []int
	if where&atUs != 0 {
		ours = list
	}
	if where&atHim != 0 {
		his = list
	}
	return tableOf(t, ours, his)
}

// tableBut is a table on which all options but these are on, at both sides; these
// are on there.
func tableBut(t *testing.T, where int, list ...int) *table.Table {
	t.Helper()
	ours, his := every(), every()
	if where&atUs == 0 {
		ours = without(ours, list)
	}
	if where&atHim == 0 {
		his = without(his, list)
	}
	return tableOf(t, ours, his)
}

// every is all options.
func every() []int {
	list := make([]int, 256)
	for option := range list {
		list[option] = option
	}
	return list
}

// without is a list without what is in another one.
func without(list, but []int) []int {
	return slices.DeleteFunc(slices.Clone(list), func(option int) bool { return slices.Contains(but, option) })
}
