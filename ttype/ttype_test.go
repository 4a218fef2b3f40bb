package ttype_test

import (
	"bytes"
	"errors"
	"math/rand"
	"regexp"
	"slices"
	"strings"
	"testing"

	"truchman/api"
	"truchman/ttype"
)

// form is how a type looks.
var form = regexp.MustCompile(`\A[!-~]{1,24}\z`)

// right is what Right should answer.
func right(name string) bool { return form.MatchString(name) }

// wrong is texts that are no types: too short or too long ones, and such as
// have a byte that no type has.
func wrong() []string {
	return []string{
		"", " ", "\x00", "\x1f", "\x7f", "\x80", "\xff", "\t", "\r\n",
		"vt 100", " vt100", "vt100 ", "vt100\x00", "\x00vt100", "vt\x7f100", "vt100\n",
		"é", "vté", "évt", "vt100\u00a0", "日本", "\xc3", "vt\xa1", "\U0001f5a5", "\ufffd",
		strings.Repeat("a", 25), strings.Repeat("~", 26), strings.Repeat("!", 48), strings.Repeat("x", 256), strings.Repeat("x", 280),
	}
}

// letters is so many types of one letter each, no two of them the same.
func letters(n int) []string {
	var list []string
	for i := range n {
		list = append(list, string(rune('a'+i%26))+strings.Repeat("x", i/26))
	}
	return list
}

// given is a list, and the same with room behind it that isn't its own.
func given[E any](list []E, behind E) (theirs, all []E) {
	all = slices.Concat(list, []E{behind, behind, behind})
	return all[:len(list)], all
}

// scribble writes over a list, and over the room behind it.
func scribble[E any](list []E, with E) {
	list = list[:cap(list)]
	for i := range list {
		list[i] = with
	}
}

// mustTell holds Right and Body of a name against the model: they never
// disagree, and what Body answers is read as the name again.
func mustTell(t *testing.T, name string) {
	t.Helper()
	is := right(name)
	if got := ttype.Right(name); got != is {
		t.Fatalf("Right of %.60q: %v", name, got)
	}
	got, err := ttype.Body(name)
	if !is {
		if len(got) != 0 || !errors.Is(err, api.ErrName) {
			t.Fatalf("Body of %.60q: % .60x, %v", name, got, err)
		}
		return
	}
	if err != nil || string(got) != "\x00"+name {
		t.Fatalf("Body of %q: % x, %v", name, got, err)
	}
	if back, asks, err := ttype.Parse(got); back != name || asks || err != nil {
		t.Fatalf("Parse of the body of %q: %q, %v, %v", name, back, asks, err)
	}
}

// said is what Parse should answer.
func said(body string) (name string, asks bool, err error) {
	switch {
	case body == "":
		return "", false, api.ErrShort
	case body == "\x01":
		return "", true, nil
	case strings.HasPrefix(body, "\x01"):
		return "", false, api.ErrLong
	case !strings.HasPrefix(body, "\x00"):
		return "", false, api.ErrForm
	case !right(body[1:]):
		return "", false, api.ErrName
	}
	return body[1:], false, nil
}

// mustRead holds Parse of bytes against the model: it changes nothing of what
// it is given, nor of the room behind, and keeps nothing of it.
func mustRead(t *testing.T, body []byte) {
	t.Helper()
	want, wantAsks, wantErr := said(string(body))
	theirs, all := given(body, '#')
	got, asks, err := ttype.Parse(theirs)
	if string(all) != string(body)+"###" {
		t.Fatalf("Parse changed what it was given: % .60x, it was % .60x", all, body)
	}
	scribble(all, '?')
	if got != want || asks != wantAsks {
		t.Fatalf("Parse of % .60x: %.60q, %v, not %.60q, %v", body, got, asks, want, wantAsks)
	}
	if wantErr == nil && err != nil || wantErr != nil && !errors.Is(err, wantErr) {
		t.Fatalf("Parse of % .60x: %v, not %v", body, err, wantErr)
	}
}

// mustRefuse holds Parse of bytes against an error that is written down.
func mustRefuse(t *testing.T, body []byte, want error) {
	t.Helper()
	if name, asks, err := ttype.Parse(body); name != "" || asks || !errors.Is(err, want) {
		t.Fatalf("Parse of % .60x: %.60q, %v, %v, not %v", body, name, asks, err, want)
	}
	mustRead(t, body)
}

// mustStart is a new cycle of types.
func mustStart(t *testing.T, types ...string) *ttype.Cycle {
	t.Helper()
	c, err := ttype.New(types)
	if err != nil || c == nil {
		t.Fatalf("New of %q: %v, %v", types, c, err)
	}
	return c
}

// mustAnswer holds the next answers of a cycle against those that are given.
func mustAnswer(t *testing.T, c *ttype.Cycle, want ...string) {
	t.Helper()
	for i, w := range want {
		if got := c.Next(); got != w {
			t.Fatalf("answer %d: %q, not %q, of %q", i, got, w, want)
		}
	}
}

// around is what a cycle of types answers, once around.
func around(types []string) []string {
	return append(slices.Clone(types), types[len(types)-1])
}

// gathered is what comes of types that were told, told by all of them at once.
func gathered(told []string) (names []string, whole bool) {
	for _, name := range slices.DeleteFunc(slices.Clone(told), func(s string) bool { return !right(s) }) {
		if len(names) == 8 || len(names) > 0 && names[len(names)-1] == name {
			return names, true
		}
		names = append(names, name)
	}
	return names, len(names) == 8
}

// mustHave holds what a list has against what is given.
func mustHave(t *testing.T, l *ttype.List, want []string, whole bool) {
	t.Helper()
	if got := l.Names(); !slices.Equal(got, want) {
		t.Fatalf("Names: %q, not %q", got, want)
	}
	if got := l.Whole(); got != whole {
		t.Fatalf("Whole: %v, of %q", got, want)
	}
}

// mustGather tells types to a new list, one after the other, and holds it
// against the model behind each.
func mustGather(t *testing.T, told ...string) {
	t.Helper()
	var l ttype.List
	mustHave(t, &l, nil, false)
	for i, name := range told {
		want, whole := gathered(told[:i+1])
		if got := l.Take(name); got != whole {
			t.Fatalf("Take of %.60q, at %d of %.60q: %v", name, i, told, got)
		}
		mustHave(t, &l, want, whole)
	}
}

func TestExample(t *testing.T) {
	c := mustStart(t, "vt100", "ansi")
	mustAnswer(t, c, "vt100", "ansi", "ansi", "vt100", "ansi", "ansi", "vt100")
	var l ttype.List
	c.Reset()
	for _, whole := range []bool{false, false, true} {
		if got := l.Take(c.Next()); got != whole {
			t.Fatalf("Take: %v, not %v", got, whole)
		}
	}
	mustHave(t, &l, []string{"vt100", "ansi"}, true)
}

// Names of every length around 1 and MaxName, and of long ones.
func TestLengths(t *testing.T) {
	if api.MaxName != 24 || api.MaxNames != 8 {
		t.Fatal("the limits aren't those that stand here")
	}
	for n := range 600 {
		for _, c := range []string{"!", "a", "~"} {
			name := strings.Repeat(c, n)
			if got := ttype.Right(name); got != (n >= 1 && n <= 24) {
				t.Fatalf("Right of %d bytes: %v", n, got)
			}
			mustTell(t, name)
			mustRead(t, []byte("\x00"+name))
		}
	}
	for _, n := range []int{1<<8 + 1, 1<<12 + 24, 1 << 16, 1<<16 + 1, 1<<16 + 24, 1 << 20} {
		name := strings.Repeat("a", n)
		mustTell(t, name)
		mustRefuse(t, []byte("\x00"+name), api.ErrName)
	}
}

// Each byte as the only one, the first, a middle and the last one of a name of
// each length: those from 33 to 126 are a type's, no others.
func TestEveryByte(t *testing.T) {
	for c := range 256 {
		is := c >= 33 && c <= 126
		for n := 1; n <= 24; n++ {
			for at := range n {
				b := bytes.Repeat([]byte("a"), n)
				b[at] = byte(c)
				if got := ttype.Right(string(b)); got != is {
					t.Fatalf("Right of %q: %v", b, got)
				}
				mustTell(t, string(b))
				body := append([]byte{0}, b...)
				mustRead(t, body)
				if !is {
					mustRefuse(t, body, api.ErrName)
				}
			}
		}
	}
}

// Every text of two bytes.
func TestEveryTwoBytes(t *testing.T) {
	for c := range 256 {
		for d := range 256 {
			b := []byte{byte(c), byte(d)}
			is := c >= 33 && c <= 126 && d >= 33 && d <= 126
			if got := ttype.Right(string(b)); got != is {
				t.Fatalf("Right of %q: %v", b, got)
			}
			mustTell(t, string(b))
			mustRead(t, b)
		}
	}
}

func TestWrongNames(t *testing.T) {
	for _, name := range wrong() {
		if ttype.Right(name) {
			t.Fatalf("%.60q is a type", name)
		}
		if b, err := ttype.Body(name); len(b) != 0 || !errors.Is(err, api.ErrName) {
			t.Fatalf("Body of %.60q: % .60x, %v", name, b, err)
		}
		mustTell(t, name)
		mustRefuse(t, []byte("\x00"+name), api.ErrName)
	}
}

// A body is a byte 0, and the name.
func TestBodyWrittenDown(t *testing.T) {
	for _, row := range []struct {
		name string
		want []byte
	}{
		{"!", []byte{0, 33}},
		{"~", []byte{0, 126}},
		{"ansi", []byte{0, 97, 110, 115, 105}},
		{"VT-100", []byte{0, 86, 84, 45, 49, 48, 48}},
		{"0", []byte{0, 48}},
		{"abcdefghijklmnopqrstuvwx", []byte("\x00abcdefghijklmnopqrstuvwx")},
	} {
		if b, err := ttype.Body(row.name); err != nil || !bytes.Equal(b, row.want) {
			t.Fatalf("Body of %q: % x, %v", row.name, b, err)
		}
		if name, asks, err := ttype.Parse(row.want); name != row.name || asks || err != nil {
			t.Fatalf("Parse of % x: %q, %v, %v", row.want, name, asks, err)
		}
	}
}

// A body is its caller's: turned, it turns no other one.
func TestBodiesApart(t *testing.T) {
	for n := 1; n <= 24; n++ {
		name, other := strings.Repeat("a", n), strings.Repeat("b", n)
		one, _ := ttype.Body(name)
		two, _ := ttype.Body(name)
		three, _ := ttype.Body(other)
		scribble(one, '?')
		if string(two) != "\x00"+name || string(three) != "\x00"+other {
			t.Fatalf("bodies of %d bytes share: %q, %q", n, two, three)
		}
		scribble(two, '?')
		if string(three) != "\x00"+other {
			t.Fatalf("bodies of %d bytes share: %q", n, three)
		}
		mustTell(t, name)
		mustTell(t, other)
	}
}

// Ask is one byte, 1, and a new row each time.
func TestAsk(t *testing.T) {
	one, two := ttype.Ask(), ttype.Ask()
	for range 3 {
		if b := ttype.Ask(); !bytes.Equal(b, []byte{1}) {
			t.Fatalf("Ask: % x", b)
		}
		scribble(one, '?')
		if !bytes.Equal(two, []byte{1}) {
			t.Fatalf("rows that ask share: % x", two)
		}
		one, two = two, ttype.Ask()
	}
	if name, asks, err := ttype.Parse(ttype.Ask()); name != "" || !asks || err != nil {
		t.Fatalf("Parse of Ask: %q, %v, %v", name, asks, err)
	}
}

func TestParseOfNothing(t *testing.T) {
	for _, b := range [][]byte{nil, {}, []byte("\x00ansi")[:0], []byte("\x01")[:0]} {
		mustRefuse(t, b, api.ErrShort)
	}
}

// Behind a first byte 1 nothing may stand.
func TestParseOfAsking(t *testing.T) {
	if name, asks, err := ttype.Parse([]byte{1}); name != "" || !asks || err != nil {
		t.Fatalf("Parse of 1: %q, %v, %v", name, asks, err)
	}
	if name, asks, err := ttype.Parse([]byte("\x01ansi")[:1]); name != "" || !asks || err != nil {
		t.Fatalf("Parse of 1, with room behind it: %q, %v, %v", name, asks, err)
	}
	for c := range 256 {
		for _, n := range []int{1, 2, 23, 24, 25, 256, 1 << 12} {
			mustRefuse(t, append([]byte{1}, bytes.Repeat([]byte{byte(c)}, n)...), api.ErrLong)
		}
	}
	for _, name := range append(wrong(), letters(30)...) {
		if name != "" {
			mustRefuse(t, []byte("\x01"+name), api.ErrLong)
		}
	}
}

// Behind a first byte 0 a type stands, and nothing else.
func TestParseOfTypes(t *testing.T) {
	mustRefuse(t, []byte{0}, api.ErrName)
	mustRefuse(t, []byte("\x00ansi")[:1], api.ErrName)
	mustRefuse(t, []byte{0, 0}, api.ErrName)
	mustRefuse(t, []byte{0, 1}, api.ErrName)
	for n := 1; n <= 24; n++ {
		for at := range n {
			for _, c := range []byte{0, 1, 31, 32, 127, 128, 160, 255} {
				body := append([]byte{0}, bytes.Repeat([]byte("a"), n)...)
				body[1+at] = c
				mustRefuse(t, body, api.ErrName)
			}
			for _, c := range []byte{33, 34, 92, 125, 126} {
				body := append([]byte{0}, bytes.Repeat([]byte("a"), n)...)
				body[1+at] = c
				if name, asks, err := ttype.Parse(body); name != string(body[1:]) || asks || err != nil {
					t.Fatalf("Parse of % x: %q, %v, %v", body, name, asks, err)
				}
			}
		}
	}
	for n := 25; n < 300; n++ {
		mustRefuse(t, append([]byte{0}, bytes.Repeat([]byte("a"), n)...), api.ErrName)
	}
}

// Another first byte is of no body, whatever stands behind it.
func TestParseOfOtherFirstBytes(t *testing.T) {
	for c := 2; c < 256; c++ {
		mustRefuse(t, []byte{byte(c)}, api.ErrForm)
		for _, behind := range append(append(wrong(), letters(9)...), "\x00", "\x01", "\x00ansi", "\x01ansi", "vt100") {
			mustRefuse(t, []byte(string([]byte{byte(c)})+behind), api.ErrForm)
		}
	}
}

// A name that was parsed hangs on nothing that Parse was given.
func TestParsedStays(t *testing.T) {
	b := []byte("\x00vt100behind")
	name, asks, err := ttype.Parse(b[:6])
	if string(b) != "\x00vt100behind" {
		t.Fatalf("Parse changed what it was given: %q", b)
	}
	scribble(b, 'x')
	if name != "vt100" || asks || err != nil {
		t.Fatalf("Parse: %q, %v, %v", name, asks, err)
	}
	b[0] = 0
	if again, _, err := ttype.Parse(b[:6]); again != "xxxxx" || err != nil || name != "vt100" {
		t.Fatalf("Parse of what was turned: %q, %v, and ahead of it %q", again, err, name)
	}
	mustRefuse(t, b[:1], api.ErrName)
}

func TestNewOfHowMany(t *testing.T) {
	for _, list := range [][]string{nil, {}, letters(1)[:0]} {
		if c, err := ttype.New(list); c != nil || !errors.Is(err, api.ErrRange) {
			t.Fatalf("New of no types: %v, %v", c, err)
		}
	}
	for n := range 60 {
		c, err := ttype.New(letters(n))
		if n >= 1 && n <= 8 {
			if c == nil || err != nil {
				t.Fatalf("New of %d types: %v, %v", n, c, err)
			}
			mustAnswer(t, c, around(letters(n))...)
			continue
		}
		if c != nil || !errors.Is(err, api.ErrRange) {
			t.Fatalf("New of %d types: %v, %v", n, c, err)
		}
	}
	for _, n := range []int{256, 257, 264, 1 << 16, 1<<16 + 8} {
		if c, err := ttype.New(slices.Repeat([]string{"ansi"}, n)); c != nil || !errors.Is(err, api.ErrRange) {
			t.Fatalf("New of %d types: %v, %v", n, c, err)
		}
	}
}

// One that is no type, at each place: of a list that is too long how many there
// are is told ahead of it.
func TestNewOfWrongTypes(t *testing.T) {
	for n := 1; n <= 12; n++ {
		want := api.ErrName
		if n > 8 {
			want = api.ErrRange
		}
		for _, name := range wrong() {
			for at := range n {
				list := letters(n)
				list[at] = name
				if c, err := ttype.New(list); c != nil || !errors.Is(err, want) {
					t.Fatalf("New of %.99q: %v, %v, not %v", list, c, err, want)
				}
			}
			if c, err := ttype.New(slices.Repeat([]string{name}, n)); c != nil || !errors.Is(err, want) {
				t.Fatalf("New of %d times %.60q: %v, %v, not %v", n, name, c, err, want)
			}
		}
	}
}

// New neither keeps nor changes the list that it is given, nor the room behind,
// and nothing that is called behind it does.
func TestNewKeepsNothing(t *testing.T) {
	for n := 1; n <= 8; n++ {
		list := letters(n)
		theirs, all := given(list, "#")
		c, d := mustStart(t, theirs...), mustStart(t, theirs...)
		mustAnswer(t, d, list[0])
		for range 3 {
			mustAnswer(t, c, around(list)...)
			c.Reset()
		}
		if want := append(slices.Clone(list), "#", "#", "#"); !slices.Equal(all, want) {
			t.Fatalf("the list that New was given is changed: %q, not %q", all, want)
		}
		scribble(theirs, "turned")
		for range 3 {
			mustAnswer(t, c, around(list)...)
		}
		mustAnswer(t, d, around(list)[1:]...)
		d.Reset()
		mustAnswer(t, d, around(list)...)
	}
	theirs, all := given([]string{"a", "", "b"}, "#")
	if _, err := ttype.New(theirs); !errors.Is(err, api.ErrName) || !slices.Equal(all, []string{"a", "", "b", "#", "#", "#"}) {
		t.Fatalf("New of what it refuses: %v, %q", err, all)
	}
}

func TestNextWrittenDown(t *testing.T) {
	for _, row := range []struct{ types, want string }{
		{"a", "a a a a a a a a"},
		{"a b", "a b b a b b a b b a"},
		{"a b c", "a b c c a b c c a b c c a"},
		{"a a", "a a a a a a a a a"},
		{"a b a", "a b a a a b a a a b a a"},
		{"a a b", "a a b b a a b b a a b b"},
		{"a b b", "a b b b a b b b a b b b"},
		{"a b a b", "a b a b b a b a b b a b a b b"},
		{"a b c d e f g h", "a b c d e f g h h a b c d e f g h h a b c d e f g h h a"},
		{"h g f e d c b a", "h g f e d c b a a h g f e d c b a a h"},
		{"a a a a a a a b", "a a a a a a a b b a a a a a a a b b a"},
	} {
		mustAnswer(t, mustStart(t, strings.Fields(row.types)...), strings.Fields(row.want)...)
	}
}

// Cycles of 1 to 8 types, many times around: all in order, then the last one
// once more, then anew.
func TestNextAround(t *testing.T) {
	for n := 1; n <= 8; n++ {
		for _, list := range [][]string{letters(n), slices.Repeat([]string{"same"}, n), slices.Repeat([]string{"x", "y"}, 4)[:n]} {
			c := mustStart(t, list...)
			for range 50 {
				mustAnswer(t, c, around(list)...)
			}
		}
	}
}

// Reset, once or twice, behind any number of answers, begins anew.
func TestReset(t *testing.T) {
	for n := 1; n <= 8; n++ {
		list := letters(n)
		once := around(list)
		for asked := range 4 * (n + 1) {
			for resets := 1; resets <= 2; resets++ {
				c := mustStart(t, list...)
				mustAnswer(t, c, slices.Repeat(once, 4)[:asked]...)
				for range resets {
					c.Reset()
				}
				mustAnswer(t, c, once...)
				mustAnswer(t, c, once...)
				mustAnswer(t, c, once[:asked%(n+1)]...)
				c.Reset()
				mustAnswer(t, c, once...)
			}
		}
	}
}

// Two cycles, of the same list or of others, share nothing.
func TestCyclesApart(t *testing.T) {
	list := letters(8)
	c, d, e := mustStart(t, list[:3]...), mustStart(t, list[:3]...), mustStart(t, list[3:]...)
	for range 9 {
		mustAnswer(t, c, "a")
		mustAnswer(t, d, "a", "b", "c", "c")
		mustAnswer(t, e, "d", "e")
		mustAnswer(t, c, "b", "c")
		mustAnswer(t, e, "f", "g", "h")
		d.Reset()
		mustAnswer(t, c, "c")
		mustAnswer(t, e, "h")
		c.Reset()
		mustAnswer(t, d, "a")
		d.Reset()
	}
}

// The zero Cycle is nothing, but asking it does no harm.
func TestZeroCycle(t *testing.T) {
	var c ttype.Cycle
	for range 3 {
		c.Next()
		c.Reset()
	}
}

func TestZeroList(t *testing.T) {
	var l ttype.List
	for range 3 {
		mustHave(t, &l, nil, false)
	}
	scribble(l.Names(), "turned")
	mustHave(t, &l, nil, false)
}

// TestTakeWrittenDown has, of types that are told (here - is what is none),
// what the list has at last, and from which one on it is whole.
func TestTakeWrittenDown(t *testing.T) {
	for _, row := range []struct {
		told, want string
		whole      int
	}{
		{"a", "a", 9},
		{"a b", "a b", 9},
		{"a a", "a", 1},
		{"a a a", "a", 1},
		{"a a b", "a", 1},
		{"a b b", "a b", 2},
		{"a b b c", "a b", 2},
		{"a b a", "a b a", 9},
		{"a b a b", "a b a b", 9},
		{"a b a a", "a b a", 3},
		{"a b c a a b", "a b c a", 4},
		{"a A", "a A", 9},
		{"a ab a", "a ab a", 9},
		{"-", "", 9},
		{"- -", "", 9},
		{"- a", "a", 9},
		{"- a a", "a", 2},
		{"a -", "a", 9},
		{"a - a", "a", 2},
		{"a - - a", "a", 3},
		{"a - b", "a b", 9},
		{"a - b a", "a b a", 9},
		{"a b - b c", "a b", 3},
		{"a b - a - a", "a b a", 5},
		{"a a - b", "a", 1},
		{"a b c d e f g", "a b c d e f g", 9},
		{"a b c d e f g g", "a b c d e f g", 7},
		{"a b c d e f g h", "a b c d e f g h", 7},
		{"a b c d e f g h h", "a b c d e f g h", 7},
		{"a b c d e f g h i", "a b c d e f g h", 7},
		{"a b c d e f g h - i j", "a b c d e f g h", 7},
		{"a b c d - e f g h i", "a b c d e f g h", 8},
		{"a b a b a b a b a", "a b a b a b a b", 7},
	} {
		for _, none := range wrong() {
			var l ttype.List
			for i, name := range strings.Fields(row.told) {
				if name == "-" {
					name = none
				}
				if got := l.Take(name); got != (i >= row.whole) || l.Whole() != got {
					t.Fatalf("Take at %d of %q: %v, Whole: %v", i, row.told, got, l.Whole())
				}
			}
			mustHave(t, &l, strings.Fields(row.want), len(strings.Fields(row.told)) > row.whole)
		}
	}
}

// A list that is whole, by each of the two ways, stays as it is.
func TestTakeOfWholeLists(t *testing.T) {
	for n := 1; n <= 8; n++ {
		list := letters(n)
		if n < 8 {
			list = around(list)
		}
		var l ttype.List
		for i, name := range list {
			if got := l.Take(name); got != (i == len(list)-1) {
				t.Fatalf("Take at %d of %q: %v", i, list, got)
			}
		}
		for _, name := range slices.Concat(wrong(), letters(30)) {
			if !l.Take(name) {
				t.Fatalf("Take of %.60q isn't whole any more", name)
			}
			mustHave(t, &l, letters(n), true)
		}
	}
}

// What is no type changes nothing, wherever it stands.
func TestTakeOfWrongTypes(t *testing.T) {
	for n := range 9 {
		for at := range n + 2 {
			for _, name := range wrong() {
				told := letters(n)
				if n > 0 {
					told = around(told)
				}
				at := min(at, len(told))
				mustGather(t, slices.Insert(told, at, name, name)...)
			}
		}
	}
}

// All short rows of two types and what is none.
func TestTakeOfShortRows(t *testing.T) {
	texts := []string{"a", "b", ""}
	for n := range 8 {
		most := 1
		for range n {
			most *= len(texts)
		}
		for k := range most {
			var told []string
			for range n {
				told = append(told, texts[k%len(texts)])
				k /= len(texts)
			}
			mustGather(t, told...)
		}
	}
}

// Names is a new row each time: turned by the caller, nothing turns in the list.
func TestNamesApart(t *testing.T) {
	var l ttype.List
	for n, name := range letters(8) {
		one := l.Names()
		two := l.Names()
		scribble(one, "turned")
		if !slices.Equal(two, letters(n)) {
			t.Fatalf("rows of names share: %q", two)
		}
		l.Take(name)
		if !slices.Equal(two, letters(n)) {
			t.Fatalf("Take turned a row that was told: %q", two)
		}
		mustHave(t, &l, letters(n+1), n+1 == 8)
		scribble(l.Names(), "turned")
		mustHave(t, &l, letters(n+1), n+1 == 8)
	}
	if l.Take("turned"); !l.Whole() {
		t.Fatal("the list isn't whole any more")
	}
	mustHave(t, &l, letters(8), true)
}

// The one ahead is the one in the list, not what the caller wrote over it.
func TestTurnedNamesCountNothing(t *testing.T) {
	var l ttype.List
	l.Take("a")
	scribble(l.Names(), "b")
	if l.Take("b") {
		t.Fatal("whole by what the caller wrote")
	}
	mustHave(t, &l, []string{"a", "b"}, false)
}

// Two lists share nothing.
func TestListsApart(t *testing.T) {
	var l, m ttype.List
	l.Take("a")
	mustHave(t, &m, nil, false)
	m.Take("b")
	if l.Take("b") || !m.Take("b") {
		t.Fatal("one list is whole by the other one")
	}
	mustHave(t, &l, []string{"a", "b"}, false)
	mustHave(t, &m, []string{"b"}, true)
	for _, name := range letters(9) {
		l.Take(name)
	}
	mustHave(t, &l, []string{"a", "b", "a", "b", "c", "d", "e", "f"}, true)
	mustHave(t, &m, []string{"b"}, true)
	var n ttype.List
	mustHave(t, &n, nil, false)
}

// mustPass asks a cycle of types by bodies, tells its answers by bodies to a
// list, and holds that it gathers all of them: it is whole with the one that is
// told once more, or as soon as it has MaxNames.
func mustPass(t *testing.T, types []string) {
	t.Helper()
	c := mustStart(t, types...)
	var l ttype.List
	last := min(len(types), 7)
	for i := range last + 1 {
		if _, asks, err := ttype.Parse(ttype.Ask()); !asks || err != nil {
			t.Fatalf("asking: %v, %v", asks, err)
		}
		body, err := ttype.Body(c.Next())
		if err != nil {
			t.Fatalf("Body of answer %d of %q: %v", i, types, err)
		}
		name, asks, err := ttype.Parse(body)
		if asks || err != nil {
			t.Fatalf("Parse of answer %d of %q: %v, %v", i, types, asks, err)
		}
		if got := l.Take(name); got != (i == last) || l.Whole() != got {
			t.Fatalf("Take of answer %d of %q: %v, Whole: %v", i, types, got, l.Whole())
		}
	}
	mustHave(t, &l, types, true)
	for range 2*len(types) + 2 {
		l.Take(c.Next())
	}
	mustHave(t, &l, types, true)
}

// P13.2: all cycles of 1 to 8 of three types of which no two that follow each
// other are the same.
func TestGathersAll(t *testing.T) {
	var count int
	var grow func(types []string)
	grow = func(types []string) {
		if n := len(types); n > 0 {
			count++
			mustPass(t, types)
			if n == 8 {
				return
			}
		}
		for _, name := range []string{"vt100", "ansi", "x"} {
			if len(types) == 0 || types[len(types)-1] != name {
				grow(append(slices.Clone(types), name))
			}
		}
	}
	grow(nil)
	if count != 3*(1<<8-1) {
		t.Fatalf("%d cycles", count)
	}
	for n := 1; n <= 8; n++ {
		mustPass(t, letters(n))
		mustPass(t, []string{"!", strings.Repeat("~", 24), "!~", "0", "9", "IBM-3278-2-E", "\"", "\\"}[:n])
	}
}

// Of cycles in which the same type follows itself, a list is whole with the
// first such one.
func TestGathersUpToTheSame(t *testing.T) {
	for n := 2; n <= 8; n++ {
		for at := 1; at < n; at++ {
			types := letters(n)
			types[at] = types[at-1]
			c := mustStart(t, types...)
			var l ttype.List
			for i := range 3 * n {
				if got := l.Take(c.Next()); got != (i >= at) {
					t.Fatalf("Take of answer %d of %q: %v", i, types, got)
				}
			}
			mustHave(t, &l, letters(at), true)
		}
	}
}

// someName is a name by chance: a few short ones often, so that the same ones
// follow each other, and now and then what is no type.
func someName(r *rand.Rand) string {
	switch r.Intn(8) {
	case 0:
		list := wrong()
		return list[r.Intn(len(list))]
	case 1:
		b := make([]byte, r.Intn(27))
		for i := range b {
			b[i] = byte(33 + r.Intn(94))
		}
		return string(b)
	case 2:
		b := make([]byte, r.Intn(5))
		r.Read(b)
		return string(b)
	}
	return string(rune('a' + r.Intn(6)))
}

// someNames is names by chance, most often such as New takes.
func someNames(r *rand.Rand) []string {
	var list []string
	for range r.Intn(10) {
		name := someName(r)
		if r.Intn(8) > 0 && !right(name) {
			name = "vt100"
		}
		list = append(list, name)
	}
	return list
}

// someBody is bytes by chance, most often with a first byte 0 or 1.
func someBody(r *rand.Rand) []byte {
	if r.Intn(9) == 0 {
		return nil
	}
	b := []byte{byte(r.Intn(2))}
	if r.Intn(5) == 0 {
		b[0] = byte(r.Intn(256))
	}
	if r.Intn(5) == 0 {
		return b
	}
	return append(b, someName(r)...)
}

// turner is a cycle beside a plain model of it.
type turner struct {
	cycle *ttype.Cycle
	types []string
	asked int
}

// next holds the next answer against the model.
func (c *turner) next(t *testing.T) string {
	t.Helper()
	once := around(c.types)
	want := once[c.asked%len(once)]
	c.asked++
	if got := c.cycle.Next(); got != want {
		t.Fatalf("answer %d of %q: %q, not %q", c.asked, c.types, got, want)
	}
	return want
}

// start holds New of types against the model: a turner, if there is a cycle.
func start(t *testing.T, types []string) *turner {
	t.Helper()
	var want error
	switch {
	case len(types) < 1 || len(types) > 8:
		want = api.ErrRange
	case !slices.ContainsFunc(types, func(s string) bool { return !right(s) }):
	default:
		want = api.ErrName
	}
	c, err := ttype.New(types)
	if want != nil {
		if c != nil || !errors.Is(err, want) {
			t.Fatalf("New of %.99q: %v, %v, not %v", types, c, err, want)
		}
		return nil
	}
	if c == nil || err != nil {
		t.Fatalf("New of %q: %v, %v", types, c, err)
	}
	return &turner{cycle: c, types: types}
}

// gatherer is a list beside all that it was told.
type gatherer struct {
	list ttype.List
	told []string
}

// take holds what a list is told against the model.
func (l *gatherer) take(t *testing.T, name string) {
	t.Helper()
	l.told = append(l.told, name)
	want, whole := gathered(l.told)
	if got := l.list.Take(name); got != whole {
		t.Fatalf("Take of %.60q: %v, of %.99q", name, got, l.told)
	}
	mustHave(t, &l.list, want, whole)
}

// act does one act by chance to cycles and lists, and holds it.
func act(t *testing.T, r *rand.Rand, cycles []*turner, lists []*gatherer) {
	t.Helper()
	c, l := cycles[r.Intn(len(cycles))], lists[r.Intn(len(lists))]
	switch r.Intn(12) {
	case 0:
		if d := start(t, someNames(r)); d != nil {
			cycles[r.Intn(len(cycles))] = d
		}
	case 1:
		c.cycle.Reset()
		c.asked = 0
	case 2:
		if r.Intn(3) == 0 {
			lists[r.Intn(len(lists))] = &gatherer{}
		}
	case 3:
		scribble(l.list.Names(), someName(r))
		want, whole := gathered(l.told)
		mustHave(t, &l.list, want, whole)
	case 4:
		mustRead(t, someBody(r))
	case 5:
		mustTell(t, someName(r))
	case 6:
		b := ttype.Ask()
		if !bytes.Equal(b, []byte{1}) {
			t.Fatalf("Ask: % x", b)
		}
		scribble(b, '?')
	case 7:
		l.take(t, c.next(t))
	case 8, 9:
		l.take(t, someName(r))
	default:
		c.next(t)
	}
}

// P13.1: long runs of all calls by chance, in every order.
func TestByChance(t *testing.T) {
	r := rand.New(rand.NewSource(13))
	for range 40 {
		cycles := []*turner{start(t, []string{"a"}), start(t, letters(2)), start(t, letters(8))}
		lists := []*gatherer{{}, {}, {}}
		for range 3000 {
			act(t, r, cycles, lists)
		}
	}
}

// P13.2: cycles by chance.
func TestGathersByChance(t *testing.T) {
	r := rand.New(rand.NewSource(132))
	for range 5000 {
		types := slices.DeleteFunc(someNames(r), func(s string) bool { return !right(s) })
		types = slices.Compact(types)
		if n := len(types); n >= 1 && n <= 8 {
			mustPass(t, types)
		}
	}
}

// No text makes a call panic, or is told otherwise than it should be.
func FuzzNames(f *testing.F) {
	f.Add("vt100", "ansi")
	f.Add("", " ")
	f.Add("\x7f", "é")
	f.Fuzz(func(t *testing.T, a, b string) {
		mustTell(t, a)
		mustTell(t, b)
		mustGather(t, a, b, b, a)
		if c := start(t, []string{a, b, a}); c != nil {
			for range 9 {
				c.next(t)
			}
		}
	})
}

// No bytes make Parse panic, or are read otherwise than they should be.
func FuzzBodies(f *testing.F) {
	f.Add([]byte("\x00vt100"))
	f.Add([]byte{1})
	f.Add([]byte{1, 1})
	f.Add([]byte{255, 250, 24})
	f.Fuzz(mustRead)
}
