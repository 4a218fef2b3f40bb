package gram_test

import (
	"bytes"
	"errors"
	"math"
	"math/rand"
	"regexp"
	"slices"
	"testing"
	"unicode/utf8"

	"truchman/api"
	"truchman/emit"
	"truchman/gram"
	"truchman/iac"
)

// What the chapter's bytes are, told here by their numbers.
const (
	lf   = 10
	cr   = 13
	se   = 240
	nop  = 241
	ga   = 249
	sb   = 250
	will = 251
	dont = 254
	ff   = 255 // IAC
	most = 256 // bytes of a body of layer 6's
)

// shape is what an item looks like: its kind, and a pattern of which the first
// group is the item.
type shape struct {
	kind    int
	pattern *regexp.Regexp
}

// common is the shapes of items that are the same raw and not raw.
var common = []shape{
	{1, regexp.MustCompile(`^(\xff\xff)`)},
	{3, regexp.MustCompile(`^(\xff[\xf1-\xf9])`)},
	{4, regexp.MustCompile(`^(\xff[\xfb-\xfe](?s:.))`)},
	{5, regexp.MustCompile(`^(\xff\xfa(?s:.)(?:[^\xff]|\xff\xff)*\xff\xf0)`)},
}

// rawShapes and otherShapes are all items' shapes, raw and not raw.
var (
	rawShapes   = append([]shape{{1, regexp.MustCompile(`^([^\xff])`)}}, common...)
	otherShapes = append([]shape{
		{1, regexp.MustCompile(`^([^\xff\r])`)},
		{1, regexp.MustCompile(`^(\r)[^\x00\n]`)},
		{2, regexp.MustCompile(`^(\r[\x00\n])`)},
	}, common...)
)

// What the beginning of an item looks like, raw and not raw.
var (
	rawBegun   = regexp.MustCompile(`^(?:|\xff|\xff[\xfa-\xfe]|\xff\xfa(?s:.)(?:[^\xff]|\xff\xff)*\xff?)$`)
	otherBegun = regexp.MustCompile(`^(?:\r|` + rawBegun.String() + `)$`)
)

// latin is bytes as a text of runes of their numbers, for the patterns.
func latin(b []byte) string {
	runes := make([]rune, len(b))
	for i, c := range b {
		runes[i] = rune(c)
	}
	return string(runes)
}

// told is what should be told of bytes.
type told struct {
	items []gram.Item
	text  []byte
	left  int // the place from which on no item stands
	good  bool
}

// model is what should be told of bytes, by the shapes.
func model(b []byte, raw bool) (want told) {
	shapes, begun := otherShapes, otherBegun
	if raw {
		shapes, begun = rawShapes, rawBegun
	}
	text := latin(b)
	for text != "" {
		kind, size := firstOf(text, shapes)
		if size == 0 {
			break
		}
		n := utf8.RuneCountInString(text[:size])
		x, says := itemOf(kind, b[want.left:want.left+n])
		x.From, x.To = want.left, want.left+n
		want.items, want.text = append(want.items, x), append(want.text, says...)
		text, want.left = text[size:], x.To
	}
	if !begun.MatchString(text) {
		return told{}
	}
	want.good = true
	return want
}

// firstOf is the kind of the item that a text begins with, and its size in it.
func firstOf(text string, shapes []shape) (kind, size int) {
	for _, s := range shapes {
		if at := s.pattern.FindStringSubmatchIndex(text); at != nil {
			return s.kind, at[3]
		}
	}
	return 0, 0
}

// itemOf is an item of its bytes, without its places, and what it says.
func itemOf(kind int, b []byte) (x gram.Item, says []byte) {
	x.Kind = kind
	switch kind {
	case 1:
		x.Code, says = int(b[0]), b[:1]
	case 2:
		x.Code, says = int(b[1]), []byte{cr}
		if b[1] == lf {
			says = []byte{cr, lf}
		}
	case 3:
		x.Code = int(b[1])
	case 4:
		x.Code, x.Option = int(b[1]), int(b[2])
	case 5:
		x.Option, x.Body = int(b[2]), bytes.ReplaceAll(b[3:len(b)-2], []byte{ff, ff}, []byte{ff})
	}
	return x, says
}

// same holds two items against each other, field by field.
func same(a, b gram.Item) bool {
	return a.Kind == b.Kind && a.From == b.From && a.To == b.To && a.Code == b.Code && a.Option == b.Option && bytes.Equal(a.Body, b.Body)
}

// given is bytes, and the same with room behind them that isn't theirs.
func given(b []byte) (theirs, all []byte) {
	all = slices.Concat(b, []byte("####"))
	return all[:len(b)], all
}

// mustStand holds what given made against what it was made of.
func mustStand(t *testing.T, all, b []byte) {
	t.Helper()
	if string(all) != string(b)+"####" {
		t.Fatalf("what was given is changed: % .60x", all)
	}
}

// scribble writes over bytes, and over the room behind them.
func scribble(b []byte) {
	b = b[:cap(b)]
	for i := range b {
		b[i] = '?'
	}
}

// scribbleItems writes over items, their bodies and the room behind all.
func scribbleItems(list []gram.Item) {
	for _, x := range list {
		scribble(x.Body)
	}
	clear(list[:cap(list)])
}

// far is places that are in no row of these tests.
func far() []int {
	return []int{-3, -255, -256, -1 << 31, 1 << 31, -1 << 32, 1 << 32, 1<<32 + 1, 1<<32 - 1, math.MaxInt, math.MinInt, math.MaxInt - 1, math.MinInt + 1}
}

// holdsParse holds Parse against the model, twice, with the first answer
// written over.
func holdsParse(t *testing.T, b []byte, raw bool, want told) {
	t.Helper()
	theirs, all := given(b)
	for range 2 {
		got, err := gram.Parse(theirs, raw)
		if want.good && err != nil || !want.good && !errors.Is(err, api.ErrForm) {
			t.Fatalf("Parse(% .60x, %v): %v, good: %v", b, raw, err, want.good)
		}
		if !slices.EqualFunc(got, want.items, same) {
			t.Fatalf("Parse(% .60x, %v): %+v, not %+v", b, raw, got, want.items)
		}
		scribbleItems(got)
	}
	mustStand(t, all, b)
}

// holdsText holds Text against the model, twice, with the first answer written
// over.
func holdsText(t *testing.T, b []byte, raw bool, want told) {
	t.Helper()
	theirs, all := given(b)
	for range 2 {
		got, err := gram.Text(theirs, raw)
		if want.good && err != nil || !want.good && !errors.Is(err, api.ErrForm) {
			t.Fatalf("Text(% .60x, %v): %v, good: %v", b, raw, err, want.good)
		}
		if !bytes.Equal(got, want.text) {
			t.Fatalf("Text(% .60x, %v): % .60x, not % .60x", b, raw, got, want.text)
		}
		scribble(got)
	}
	mustStand(t, all, b)
}

// holdsRest holds Rest against the model.
func holdsRest(t *testing.T, b []byte, raw bool, want told) {
	t.Helper()
	theirs, all := given(b)
	rest := 0
	if want.good {
		rest = len(b) - want.left
	}
	if got := gram.Rest(theirs, raw); got != rest {
		t.Fatalf("Rest(% .60x, %v): %d, not %d", b, raw, got, rest)
	}
	mustStand(t, all, b)
}

// bordersOf is the places at which a border should be.
func bordersOf(b []byte, want told) map[int]bool {
	at := map[int]bool{}
	if !want.good {
		return at
	}
	for _, x := range want.items {
		at[x.From], at[x.To] = true, true
	}
	at[want.left], at[len(b)] = true, true
	return at
}

// holdsBorder holds Border against the model, at every place of the bytes,
// ahead of them and behind them, and at far ones.
func holdsBorder(t *testing.T, b []byte, raw bool, want told) {
	t.Helper()
	theirs, all := given(b)
	borders := bordersOf(b, want)
	for at := -2; at <= len(b)+2; at++ {
		if got := gram.Border(theirs, raw, at); got != borders[at] {
			t.Fatalf("Border(% .60x, %v, %d): %v", b, raw, at, got)
		}
	}
	for _, at := range append(far(), len(b)+256, len(b)+1<<32, len(b)-1<<32) {
		if gram.Border(theirs, raw, at) {
			t.Fatalf("Border(% .60x, %v, %d)", b, raw, at)
		}
	}
	mustStand(t, all, b)
}

// holdsWay holds all calls against the model, raw or not, and answers what the
// model tells.
func holdsWay(t *testing.T, b []byte, raw bool) told {
	t.Helper()
	want := model(b, raw)
	holdsParse(t, b, raw, want)
	holdsText(t, b, raw, want)
	holdsRest(t, b, raw, want)
	holdsBorder(t, b, raw, want)
	return want
}

// holds holds all calls against the model, raw and not raw.
func holds(t *testing.T, parts ...[]byte) {
	t.Helper()
	b := slices.Concat(parts...)
	holdsWay(t, b, true)
	holdsWay(t, b, false)
}

// mustBe holds all calls against what is written down, and against the model.
func mustBe(t *testing.T, b []byte, raw bool, rest int, text []byte, want ...gram.Item) {
	t.Helper()
	holdsWay(t, b, raw)
	got, err := gram.Parse(b, raw)
	if err != nil || !slices.EqualFunc(got, want, same) {
		t.Fatalf("Parse(% .60x, %v): %+v, %v, not %+v", b, raw, got, err, want)
	}
	if got := gram.Rest(b, raw); got != rest {
		t.Fatalf("Rest(% .60x, %v): %d, not %d", b, raw, got, rest)
	}
	if got, err := gram.Text(b, raw); err != nil || !bytes.Equal(got, text) {
		t.Fatalf("Text(% .60x, %v): % .60x, %v, not % .60x", b, raw, got, err, text)
	}
}

// mustRefuse holds that bytes aren't of the grammar: nothing but ErrForm is
// told of them, raw or not.
func mustRefuse(t *testing.T, b []byte) {
	t.Helper()
	for _, raw := range []bool{true, false} {
		holdsWay(t, b, raw)
		list, err := gram.Parse(b, raw)
		text, textErr := gram.Text(b, raw)
		if !errors.Is(err, api.ErrForm) || !errors.Is(textErr, api.ErrForm) || len(list) != 0 || len(text) != 0 {
			t.Fatalf("% .60x, %v: %+v, %v, % x, %v", b, raw, list, err, text, textErr)
		}
		if gram.Rest(b, raw) != 0 {
			t.Fatalf("% .60x, %v: Rest %d", b, raw, gram.Rest(b, raw))
		}
		for at := -1; at <= len(b)+1; at++ {
			if gram.Border(b, raw, at) {
				t.Fatalf("% .60x, %v: a border at %d", b, raw, at)
			}
		}
	}
}

// row is so many bytes, none of them like its neighbours, none of them 255.
func row(n int) []byte {
	b := make([]byte, n)
	for i := range b {
		b[i] = byte(i * 7 % 251)
	}
	return b
}

// nines is so many bytes 255.
func nines(n int) []byte { return bytes.Repeat([]byte{ff}, n) }

// bytesOf is a Sub's bytes, of a body in which no byte is doubled yet.
func bytesOf(option int, body []byte) []byte {
	body = bytes.ReplaceAll(body, []byte{ff}, []byte{ff, ff})
	return slices.Concat([]byte{ff, sb, byte(option)}, body, []byte{ff, se})
}

// sample is an item without its places, its bytes, and what they say. None of
// them hangs on what stands behind it.
type sample struct {
	b    []byte
	item gram.Item
	says []byte
}

// samples is items of each kind, of each way in which it can be told.
func samples(raw bool) []sample {
	long := row(most + 40)
	list := []sample{
		{[]byte{'a'}, gram.Item{Kind: gram.Byte, Code: 'a'}, []byte{'a'}},
		{[]byte{0}, gram.Item{Kind: gram.Byte}, []byte{0}},
		{[]byte{lf}, gram.Item{Kind: gram.Byte, Code: lf}, []byte{lf}},
		{[]byte{se}, gram.Item{Kind: gram.Byte, Code: se}, []byte{se}},
		{[]byte{sb}, gram.Item{Kind: gram.Byte, Code: sb}, []byte{sb}},
		{[]byte{ff, ff}, gram.Item{Kind: gram.Byte, Code: ff}, []byte{ff}},
		{[]byte{ff, nop}, gram.Item{Kind: gram.Plain, Code: nop}, nil},
		{[]byte{ff, ga}, gram.Item{Kind: gram.Plain, Code: ga}, nil},
		{[]byte{ff, will, 0}, gram.Item{Kind: gram.Verb, Code: will}, nil},
		{[]byte{ff, 253, cr}, gram.Item{Kind: gram.Verb, Code: 253, Option: cr}, nil},
		{[]byte{ff, dont, ff}, gram.Item{Kind: gram.Verb, Code: dont, Option: ff}, nil},
		{[]byte{ff, sb, 24, ff, se}, gram.Item{Kind: gram.Sub, Option: 24}, nil},
		{[]byte{ff, sb, ff, cr, 0, ff, ff, ff, se}, gram.Item{Kind: gram.Sub, Option: ff, Body: []byte{cr, 0, ff}}, nil},
		{bytesOf(0, long), gram.Item{Kind: gram.Sub, Body: long}, nil},
	}
	if raw {
		return append(list, sample{[]byte{cr}, gram.Item{Kind: gram.Byte, Code: cr}, []byte{cr}})
	}
	return append(list,
		sample{[]byte{cr, 0}, gram.Item{Kind: gram.Pair}, []byte{cr}},
		sample{[]byte{cr, lf}, gram.Item{Kind: gram.Pair, Code: lf}, []byte{cr, lf}})
}

// laid is samples one behind the other: their bytes, their items with their
// places, and what they say.
func laid(list ...sample) (b []byte, items []gram.Item, says []byte) {
	for _, s := range list {
		x := s.item
		x.From, x.To = len(b), len(b)+len(s.b)
		b, items, says = append(b, s.b...), append(items, x), append(says, s.says...)
	}
	return b, items, says
}

// mustBeLaid holds all calls of samples that are laid one behind the other.
func mustBeLaid(t *testing.T, raw bool, list ...sample) {
	t.Helper()
	b, items, says := laid(list...)
	mustBe(t, b, raw, 0, says, items...)
}

// P7.1: the kinds' numbers.
func TestKinds(t *testing.T) {
	kinds := []int{gram.Byte, gram.Pair, gram.Plain, gram.Verb, gram.Sub}
	if !slices.Equal(kinds, []int{1, 2, 3, 4, 5}) {
		t.Fatal(kinds)
	}
}

// The chapter's example, and the same raw.
func TestExample(t *testing.T) {
	b := []byte{13, 0, 65}
	mustBe(t, b, false, 0, []byte{13, 65}, gram.Item{Kind: gram.Pair, To: 2}, gram.Item{Kind: gram.Byte, From: 2, To: 3, Code: 65})
	mustBe(t, b, true, 0, b, gram.Item{Kind: gram.Byte, To: 1, Code: 13}, gram.Item{Kind: gram.Byte, From: 1, To: 2},
		gram.Item{Kind: gram.Byte, From: 2, To: 3, Code: 65})
}

// P7.1: no bytes are of the grammar, and place 0 is a border of theirs.
func TestNoBytes(t *testing.T) {
	for _, b := range [][]byte{nil, {}, []byte("abc")[:0]} {
		for _, raw := range []bool{true, false} {
			mustBe(t, b, raw, 0, nil)
			if !gram.Border(b, raw, 0) || gram.Border(b, raw, 1) || gram.Border(b, raw, -1) {
				t.Fatalf("%v: the borders of no bytes", raw)
			}
		}
	}
}

// P7.1: each byte by itself: an item, but for what begins one.
func TestEachByte(t *testing.T) {
	for c := range 256 {
		b := []byte{byte(c)}
		x := gram.Item{Kind: gram.Byte, To: 1, Code: c}
		switch c {
		case ff:
			mustBe(t, b, true, 1, nil)
			mustBe(t, b, false, 1, nil)
		case cr:
			mustBe(t, b, true, 0, b, x)
			mustBe(t, b, false, 1, nil)
		default:
			mustBe(t, b, true, 0, b, x)
			mustBe(t, b, false, 0, b, x)
		}
	}
}

// P7.1: each two bytes.
func TestEachTwoBytes(t *testing.T) {
	for c := range 256 {
		for d := range 256 {
			holds(t, []byte{byte(c), byte(d)})
		}
	}
}

// P7.1: each three, and each four bytes of those on which the grammar hangs.
func TestEachOfASmallSet(t *testing.T) {
	set := []byte{0, 10, 13, 65, 240, 241, 249, 250, 251, 254, 255}
	for _, c := range set {
		for _, d := range set {
			for _, e := range set {
				holds(t, []byte{c, d, e})
				for _, f := range set {
					holds(t, []byte{c, d, e, f})
				}
			}
		}
	}
}

// P7.1: each row of up to eight bytes of the fewest that tell all states.
func TestEachRowOfFewBytes(t *testing.T) {
	rows := [][]byte{nil}
	for range 8 {
		var longer [][]byte
		for _, b := range rows {
			for _, c := range []byte{cr, se, sb, ff} {
				longer = append(longer, append(slices.Clone(b), c))
			}
		}
		for _, b := range longer {
			holds(t, b)
		}
		rows = longer
	}
}

// P7.1: bytes that are of the grammar together, of which one is 13: raw it is
// a Byte, not raw what stands behind it tells.
func TestReturnAheadOfEachByte(t *testing.T) {
	for c := range 256 {
		b := []byte{cr, byte(c)}
		one, two := gram.Item{Kind: gram.Byte, To: 1, Code: cr}, gram.Item{Kind: gram.Byte, From: 1, To: 2, Code: c}
		if c == ff {
			mustBe(t, b, true, 1, b[:1], one)
			mustBe(t, b, false, 1, b[:1], one)
			continue
		}
		mustBe(t, b, true, 0, b, one, two)
		switch c {
		case 0:
			mustBe(t, b, false, 0, []byte{cr}, gram.Item{Kind: gram.Pair, To: 2})
		case lf:
			mustBe(t, b, false, 0, []byte{cr, lf}, gram.Item{Kind: gram.Pair, To: 2, Code: lf})
		case cr:
			mustBe(t, b, false, 1, b[:1], one)
		default:
			mustBe(t, b, false, 0, b, one, two)
		}
	}
}

// P7.1: 13 in the middle: behind each sample and ahead of each one, and behind
// others of its kind.
func TestReturnInTheMiddle(t *testing.T) {
	alone := sample{[]byte{cr}, gram.Item{Kind: gram.Byte, Code: cr}, []byte{cr}}
	for _, raw := range []bool{true, false} {
		for _, a := range samples(raw) {
			for _, b := range samples(raw) {
				if c := b.b[0]; !raw && (c == 0 || c == lf) {
					continue
				}
				mustBeLaid(t, raw, a, alone, b)
				mustBeLaid(t, raw, a, alone, alone, alone, b)
			}
		}
	}
	for n := range 6 {
		returns := bytes.Repeat([]byte{cr}, n)
		holds(t, returns, []byte{0})
		holds(t, returns, []byte{0, 0})
		holds(t, returns, []byte{lf, lf})
		holds(t, returns, []byte{0, lf})
		holds(t, returns, []byte{lf, 0, cr})
		holds(t, returns, []byte{ff, ff, 0})
		holds(t, returns, []byte{ff, nop, 0})
	}
}

// P7.1: 13 at the very end: raw a Byte, not raw the beginning of one more item.
func TestReturnAtTheEnd(t *testing.T) {
	for _, raw := range []bool{true, false} {
		for _, s := range samples(raw) {
			b, items, says := laid(s)
			end := append(slices.Clone(b), cr)
			last := gram.Item{Kind: gram.Byte, From: len(b), To: len(b) + 1, Code: cr}
			if raw {
				mustBe(t, end, true, 0, append(says, cr), append(items, last)...)
			} else {
				mustBe(t, end, false, 1, says, items...)
			}
			again := append(end, cr) // only the last of two is left
			if raw {
				mustBe(t, again, true, 0, append(says, cr, cr), append(items, last, gram.Item{Kind: gram.Byte, From: len(b) + 1, To: len(b) + 2, Code: cr})...)
			} else {
				mustBe(t, again, false, 1, append(says, cr), append(items, last)...)
			}
		}
	}
}

// P7.1: 13 where it is no Byte: a verb's option, a Sub's option, in its body, at
// its end. The bytes behind make no Pair with it.
func TestReturnInsideOthers(t *testing.T) {
	for _, raw := range []bool{true, false} {
		nul := gram.Item{Kind: gram.Byte, From: 3, To: 4}
		mustBe(t, []byte{ff, will, cr, 0}, raw, 0, []byte{0}, gram.Item{Kind: gram.Verb, To: 3, Code: will, Option: cr}, nul)
		mustBe(t, []byte{ff, will, cr}, raw, 0, nil, gram.Item{Kind: gram.Verb, To: 3, Code: will, Option: cr})
		mustBe(t, []byte{ff, sb, cr, 0, ff, se}, raw, 0, nil, gram.Item{Kind: gram.Sub, To: 6, Option: cr, Body: []byte{0}})
		mustBe(t, []byte{ff, sb, 1, cr, ff, se, 0}, raw, 0, []byte{0},
			gram.Item{Kind: gram.Sub, To: 6, Option: 1, Body: []byte{cr}}, gram.Item{Kind: gram.Byte, From: 6, To: 7})
		mustBe(t, []byte{ff, sb, 1, cr}, raw, 4, nil)
		mustBe(t, []byte{ff, sb, cr}, raw, 3, nil)
	}
}

// P7.1: 255 ahead of each byte, by itself and behind an item.
func TestIACAheadOfEachByte(t *testing.T) {
	for c := range 256 {
		for _, raw := range []bool{true, false} {
			b := []byte{ff, byte(c)}
			behind := []byte{'a', ff, byte(c)}
			a := gram.Item{Kind: gram.Byte, To: 1, Code: 'a'}
			switch {
			case c == ff:
				mustBe(t, b, raw, 0, []byte{ff}, gram.Item{Kind: gram.Byte, To: 2, Code: ff})
				mustBe(t, behind, raw, 0, []byte{'a', ff}, a, gram.Item{Kind: gram.Byte, From: 1, To: 3, Code: ff})
			case c >= sb:
				mustBe(t, b, raw, 2, nil)
				mustBe(t, behind, raw, 2, []byte{'a'}, a)
			case c >= nop:
				mustBe(t, b, raw, 0, nil, gram.Item{Kind: gram.Plain, To: 2, Code: c})
				mustBe(t, behind, raw, 0, []byte{'a'}, a, gram.Item{Kind: gram.Plain, From: 1, To: 3, Code: c})
			default:
				mustRefuse(t, b)
				mustRefuse(t, behind)
				mustRefuse(t, append(b, 'a'))
			}
		}
	}
}

// P7.1: each verb with each byte behind it, and what comes then is read anew.
func TestEachVerb(t *testing.T) {
	for verb := will; verb <= dont; verb++ {
		for option := range 256 {
			b := []byte{ff, byte(verb), byte(option)}
			x := gram.Item{Kind: gram.Verb, To: 3, Code: verb, Option: option}
			for _, raw := range []bool{true, false} {
				mustBe(t, b, raw, 0, nil, x)
				mustBe(t, append(b, ff, ff, 'a'), raw, 0, []byte{ff, 'a'}, x,
					gram.Item{Kind: gram.Byte, From: 3, To: 5, Code: ff}, gram.Item{Kind: gram.Byte, From: 5, To: 6, Code: 'a'})
				mustBe(t, append(b, ff), raw, 1, nil, x)
			}
		}
	}
}

// mustBeSub holds a Sub of a body, raw and not raw, by itself, and with a byte
// behind it that is read anew.
func mustBeSub(t *testing.T, option int, body []byte) {
	t.Helper()
	b := bytesOf(option, body)
	x := gram.Item{Kind: gram.Sub, To: len(b), Option: option, Body: body}
	for _, raw := range []bool{true, false} {
		mustBe(t, b, raw, 0, nil, x)
		mustBe(t, append(b, se), raw, 0, []byte{se}, x, gram.Item{Kind: gram.Byte, From: len(b), To: len(b) + 1, Code: se})
	}
}

// P7.1: a Sub of each option, with an empty body and with others.
func TestSubOfEachOption(t *testing.T) {
	for option := range 256 {
		mustBeSub(t, option, nil)
		mustBeSub(t, option, []byte{byte(option)})
		mustBeSub(t, option, []byte{ff})
		mustBeSub(t, option, []byte{1, 2, 3})
	}
}

// P7.1: each byte in a body, by itself, behind others and ahead of them.
func TestSubOfEachByte(t *testing.T) {
	for c := range 256 {
		b := byte(c)
		mustBeSub(t, 24, []byte{b})
		mustBeSub(t, 24, []byte{b, b})
		mustBeSub(t, 24, []byte{cr, b, 0})
		mustBeSub(t, 24, []byte{ff, b, ff})
		mustBeSub(t, 24, []byte{b, ff, se, b})
	}
}

// P7.1: bytes 255 at each place of a body, at each two, and nothing else.
func TestSubOfBytes255(t *testing.T) {
	for _, n := range []int{1, 2, 3, 4, 9, 40} {
		mustBeSub(t, 1, nines(n))
		for i := range n {
			body := row(n)
			body[i] = ff
			mustBeSub(t, 1, body)
			for j := range n {
				body[j] = ff
				mustBeSub(t, 1, body)
				body = row(n)
				body[i] = ff
			}
		}
	}
}

// P7.1: 13, 0 and 10 in a body stay as they are, raw and not raw.
func TestSubOfReturns(t *testing.T) {
	for _, body := range [][]byte{{cr}, {cr, 0}, {0, cr}, {cr, lf}, {cr, cr, 0}, {cr, 0, 0}, {cr, ff}, {ff, cr, 0}, {cr, ff, 0}, {'a', cr, 0, 'b', cr, lf, cr}} {
		mustBeSub(t, 24, body)
		mustBeSub(t, cr, body)
	}
}

// P7.1: bodies of MaxSub bytes, of more and of many more: nothing bounds them.
func TestSubOfManyBytes(t *testing.T) {
	for _, n := range []int{most - 1, most, most + 1, 2 * most, 1000} {
		mustBeSub(t, 9, row(n))
		mustBeSub(t, 9, nines(n))
	}
	for _, n := range []int{1 << 16, 1<<16 + 1, 1 << 20} {
		for _, body := range [][]byte{row(n), nines(n)} {
			b := bytesOf(9, body)
			got, err := gram.Parse(b, false)
			want := gram.Item{Kind: gram.Sub, To: len(b), Option: 9, Body: body}
			if err != nil || len(got) != 1 || !same(got[0], want) {
				t.Fatalf("a body of %d bytes: %d items, %v", n, len(got), err)
			}
			for cut := len(b) - 1; cut > len(b)-5; cut-- {
				if gram.Rest(b[:cut], true) != cut || gram.Border(b[:cut], true, cut-1) || !gram.Border(b[:cut], true, cut) {
					t.Fatalf("a body of %d bytes, cut: Rest %d", n, gram.Rest(b[:cut], true))
				}
			}
		}
	}
}

// P7.1: 255 and a byte that is neither 255 nor 240 in a body, at its beginning,
// in its middle and at its end, with what could end the Sub behind it.
func TestSubOfAWrongByte(t *testing.T) {
	for c := range 256 {
		if c == ff || c == se {
			continue
		}
		for _, body := range [][]byte{nil, {0}, {9, 8}, {ff, ff}, {cr, 0}, {ff, ff, ff, ff}, {se}, row(most + 1)} {
			for _, option := range []byte{24, ff, cr} {
				b := slices.Concat([]byte{ff, sb, option}, body, []byte{ff, byte(c)})
				mustRefuse(t, b)
				if len(body) < 3 {
					mustRefuse(t, slices.Concat(b, []byte{ff, se}))
					mustRefuse(t, slices.Concat(b, body, []byte{ff, se, 'a'}))
				}
			}
		}
	}
}

// P7.1: items that break off at each of their places, behind each sample: what
// is there of them is left.
func TestBreaksOff(t *testing.T) {
	subs := [][]byte{bytesOf(24, nil), bytesOf(ff, []byte{1}), bytesOf(cr, []byte{cr, 0, ff, lf}), bytesOf(0, nines(5)), bytesOf(31, row(30)), bytesOf(31, []byte{se, ff, se})}
	for _, raw := range []bool{true, false} {
		for _, s := range samples(raw) {
			subs = append(subs, s.b)
		}
		for _, a := range samples(raw) {
			ahead, items, says := laid(a)
			for _, b := range subs {
				if b[0] != ff {
					continue
				}
				for n := 1; n < min(len(b), 40); n++ {
					mustBe(t, b[:n], raw, n, nil)
					mustBe(t, slices.Concat(ahead, b[:n]), raw, n, says, items...)
				}
			}
		}
	}
}

// P7.1: each kind of item by itself, behind each other one, and a third one
// behind them: places, Code, Option, Body, and what a kind doesn't have.
func TestKindsBehindEachOther(t *testing.T) {
	for _, raw := range []bool{true, false} {
		for _, a := range samples(raw) {
			mustBeLaid(t, raw, a)
			for _, b := range samples(raw) {
				mustBeLaid(t, raw, a, b)
				for _, c := range samples(raw)[2:] {
					if len(a.b)+len(b.b)+len(c.b) < 60 {
						mustBeLaid(t, raw, a, b, c)
					}
				}
			}
		}
	}
}

// P7.1: what a kind doesn't have is zero, behind items that have it.
func TestWhatAKindHasNot(t *testing.T) {
	for _, raw := range []bool{true, false} {
		list := samples(raw)
		b, _, _ := laid(append(slices.Clone(list), list...)...)
		got, err := gram.Parse(b, raw)
		if err != nil || len(got) != 2*len(list) {
			t.Fatalf("%d items, %v", len(got), err)
		}
		for _, x := range got {
			if x.Kind == gram.Sub && x.Code != 0 {
				t.Errorf("a Sub with a Code: %+v", x)
			}
			if x.Kind != gram.Sub && x.Kind != gram.Verb && x.Option != 0 {
				t.Errorf("one with an Option: %+v", x)
			}
			if x.Kind != gram.Sub && len(x.Body) != 0 {
				t.Errorf("one with a Body: %+v", x)
			}
		}
	}
}

// P7.1: the Text of Bytes and Pairs among items of all the other kinds.
func TestTextAmongOthers(t *testing.T) {
	for _, raw := range []bool{true, false} {
		var others, texts []sample
		for _, s := range samples(raw) {
			if s.says == nil {
				others = append(others, s)
			} else {
				texts = append(texts, s)
			}
		}
		for _, between := range others {
			var list []sample
			for _, s := range texts {
				list = append(list, between, s, s, between)
			}
			mustBeLaid(t, raw, list...)
			mustBeLaid(t, raw, between, between)
		}
	}
	b := []byte{'a', ff, nop, cr, lf, ff, ff, ff, will, cr, cr, 0, ff, sb, 'x', 'y', ff, se, 'b', cr}
	for raw, want := range map[bool][]byte{true: {'a', cr, lf, ff, cr, 0, 'b', cr}, false: {'a', cr, lf, ff, cr, 'b'}} {
		if got, err := gram.Text(b, raw); err != nil || !bytes.Equal(got, want) {
			t.Errorf("Text(% x, %v): % x, %v, not % x", b, raw, got, err, want)
		}
	}
}

// P7.1: the borders of rows, written down: the places at which one is.
func TestBordersWrittenDown(t *testing.T) {
	for _, x := range []struct {
		b    []byte
		raw  bool
		want []int
	}{
		{[]byte{'a', 'b'}, true, []int{0, 1, 2}},
		{[]byte{cr, 0, 'b'}, true, []int{0, 1, 2, 3}},
		{[]byte{cr, 0, 'b'}, false, []int{0, 2, 3}},
		{[]byte{cr, cr, lf, cr}, false, []int{0, 1, 3, 4}},
		{[]byte{cr}, false, []int{0, 1}},
		{[]byte{ff, ff, ff, nop, ff, will, ff}, false, []int{0, 2, 4, 7}},
		{[]byte{ff, sb, 1, 2, ff, ff, ff, se, 'a'}, true, []int{0, 8, 9}},
		{[]byte{ff}, true, []int{0, 1}},
		{[]byte{ff, sb, 1, 2}, true, []int{0, 4}},
		{[]byte{'a', ff, sb, 1, 2, ff}, true, []int{0, 1, 6}},
		{[]byte{'a', ff, will}, false, []int{0, 1, 3}},
		{[]byte{'a', ff, se}, true, nil},
		{nil, true, []int{0}},
		{nil, false, []int{0}},
	} {
		holdsWay(t, x.b, x.raw)
		var got []int
		for at := -9; at <= len(x.b)+9; at++ {
			if gram.Border(x.b, x.raw, at) {
				got = append(got, at)
			}
		}
		if !slices.Equal(got, x.want) {
			t.Errorf("% x, %v: borders at %v, not at %v", x.b, x.raw, got, x.want)
		}
	}
}

// wrongs is bytes that are not of the grammar, whatever stands ahead of them, if
// an item ends there, and behind them.
func wrongs() [][]byte {
	list := [][]byte{
		{ff, sb, 24, ff, 0},
		{ff, sb, 24, 1, ff, nop},
		{ff, sb, ff, ff, sb},
		{ff, sb, 24, ff, ff, ff, cr},
		{ff, sb, 24, cr, 0, ff, will, 1},
	}
	for _, c := range []byte{0, 1, lf, cr, 'a', 127, 128, 239, se} {
		list = append(list, []byte{ff, c})
	}
	return list
}

// P7.1: bytes that aren't of the grammar, behind each item of a row, ahead of
// the others, and two times: nothing is told of any of them.
func TestWrongAtEachPlace(t *testing.T) {
	for _, raw := range []bool{true, false} {
		list := samples(raw)
		list = slices.DeleteFunc(list, func(s sample) bool { return len(s.b) > 40 })
		for _, wrong := range wrongs() {
			mustRefuse(t, wrong)
			for i := range len(list) + 1 {
				ahead, _, _ := laid(list[:i]...)
				behind, _, _ := laid(list[i:]...)
				mustRefuse(t, slices.Concat(ahead, wrong, behind))
				mustRefuse(t, slices.Concat(ahead, wrong))
				mustRefuse(t, slices.Concat(ahead, wrong, behind, []byte{ff, sb, 1}))
				mustRefuse(t, slices.Concat(wrong, ahead, wrong, behind))
			}
		}
	}
}

// P7.1: wrong bytes within the items, too, wherever they come to stand.
func TestWrongAtEachByte(t *testing.T) {
	for _, raw := range []bool{true, false} {
		list := samples(raw)
		b, _, _ := laid(slices.DeleteFunc(list, func(s sample) bool { return len(s.b) > 40 })...)
		for _, wrong := range wrongs() {
			for i := range len(b) + 1 {
				holds(t, b[:i], wrong, b[i:])
			}
		}
		for i := range b {
			holds(t, b[:i], b[i+1:]) // and with a byte that is lost
		}
	}
}

// mustBegin holds that each beginning of bytes of the grammar is of it: with
// the same items as far as they go, and with no byte that is told of nowhere.
func mustBegin(t *testing.T, b []byte, raw bool) {
	t.Helper()
	all, err := gram.Parse(b, raw)
	if err != nil {
		t.Fatalf("Parse(% .60x, %v): %v", b, raw, err)
	}
	for n := range len(b) + 1 {
		got, err := gram.Parse(b[:n], raw)
		if err != nil || len(got) > len(all) || !slices.EqualFunc(got, all[:len(got)], same) {
			t.Fatalf("Parse(% .60x, %v): %+v, %v, of %+v", b[:n], raw, got, err, all)
		}
		end := 0
		if len(got) > 0 {
			end = got[len(got)-1].To
		}
		if gram.Rest(b[:n], raw) != n-end {
			t.Fatalf("Rest(% .60x, %v): %d, behind %d", b[:n], raw, gram.Rest(b[:n], raw), end)
		}
		if len(got) == len(all) {
			continue
		}
		// The next one isn't there as yet; not raw, a 13 of its own isn't known to be.
		if x := all[len(got)]; x.To < n || x.To == n && (raw || x.Code != cr) {
			t.Fatalf("Parse(% .60x, %v) has no %+v", b[:n], raw, x)
		}
	}
}

// P7.2: every beginning of bytes of the grammar is of the grammar.
func TestBeginnings(t *testing.T) {
	for _, raw := range []bool{true, false} {
		for _, a := range samples(raw) {
			for _, b := range samples(raw) {
				row, _, _ := laid(a, b)
				mustBegin(t, row, raw)
			}
		}
		all, _, _ := laid(samples(raw)...)
		mustBegin(t, all, raw)
		mustBegin(t, append(all, cr), raw)
		mustBegin(t, append(all, cr, cr, 'a', cr, 0, cr, lf, cr, ff, ff, ff, sb, 1, ff, ff), raw)
		set := []byte{0, cr, 'a', se, nop, sb, will, ff}
		for _, c := range set {
			for _, d := range set {
				for _, e := range set {
					for _, f := range set {
						if row := []byte{c, d, e, f}; model(row, raw).good {
							mustBegin(t, row, raw)
						}
					}
				}
			}
		}
	}
}

// itemFor is the item, without its places, that a token should be told as.
func itemFor(x iac.Token) gram.Item {
	switch x.Kind {
	case iac.Data:
		return gram.Item{Kind: gram.Byte, Code: x.Code}
	case iac.Plain:
		return gram.Item{Kind: gram.Plain, Code: x.Code}
	case iac.Verb:
		return gram.Item{Kind: gram.Verb, Code: x.Code, Option: x.Option}
	}
	return gram.Item{Kind: gram.Sub, Option: x.Option, Body: x.Body}
}

// mustEmit holds that what layer 6 tells of tokens is of the grammar: raw, with
// an item for each token, and nothing left; so is each beginning of it, if asked.
func mustEmit(t *testing.T, begin bool, list ...iac.Token) {
	t.Helper()
	b, err := emit.All(list)
	if err != nil {
		t.Fatalf("%+v: %v", list, err)
	}
	var want []gram.Item
	end := 0
	for _, x := range list {
		one, _ := emit.Token(x)
		item := itemFor(x)
		item.From, item.To = end, end+len(one)
		want, end = append(want, item), item.To
	}
	got, err := gram.Parse(b, true)
	if err != nil || !slices.EqualFunc(got, want, same) || gram.Rest(b, true) != 0 {
		t.Fatalf("Parse(% .60x, true): %+v, %v, not %+v", b, got, err, want)
	}
	if _, err := gram.Parse(b, false); err != nil {
		t.Fatalf("Parse(% .60x, false): %v", b, err)
	}
	if begin {
		mustBegin(t, b, true)
		mustBegin(t, b, false)
	}
}

// tokens is tokens of each kind that layer 6 tells.
func tokens() []iac.Token {
	return []iac.Token{
		{Kind: iac.Data, Code: 'a'}, {Kind: iac.Data}, {Kind: iac.Data, Code: lf}, {Kind: iac.Data, Code: cr},
		{Kind: iac.Data, Code: se}, {Kind: iac.Data, Code: ff},
		{Kind: iac.Plain, Code: nop}, {Kind: iac.Plain, Code: 242}, {Kind: iac.Plain, Code: ga},
		{Kind: iac.Verb, Code: will}, {Kind: iac.Verb, Code: 252, Option: cr}, {Kind: iac.Verb, Code: 253, Option: sb}, {Kind: iac.Verb, Code: dont, Option: ff},
		{Kind: iac.Sub, Option: 24}, {Kind: iac.Sub, Body: []byte{cr, 0}}, {Kind: iac.Sub, Option: ff, Body: []byte{ff, se, ff}},
		{Kind: iac.Sub, Option: 31, Body: row(most)}, {Kind: iac.Sub, Option: 31, Body: nines(most)},
	}
}

// P7.2: all that layer 6 tells of one token.
func TestEmitEach(t *testing.T) {
	for c := range 256 {
		mustEmit(t, true, iac.Token{Kind: iac.Data, Code: c})
		for verb := will; verb <= dont; verb++ {
			mustEmit(t, true, iac.Token{Kind: iac.Verb, Code: verb, Option: c})
		}
		for _, body := range [][]byte{nil, {byte(c)}, {cr, byte(c), ff}, {ff, byte(c), 0}, row(most), nines(most)} {
			mustEmit(t, len(body) < 9, iac.Token{Kind: iac.Sub, Option: c, Body: body})
			mustEmit(t, len(body) < 9, iac.Token{Kind: iac.Sub, Option: 24, Body: body})
		}
	}
	for code := nop; code <= ga; code++ {
		mustEmit(t, true, iac.Token{Kind: iac.Plain, Code: code})
	}
}

// P7.2: all that layer 6 tells: each kind behind each other one, and three.
func TestEmitBehindEachOther(t *testing.T) {
	mustEmit(t, true)
	for _, a := range tokens() {
		for _, b := range tokens() {
			mustEmit(t, len(a.Body)+len(b.Body) < 9, a, b)
			for _, c := range tokens() {
				mustEmit(t, false, a, b, c)
			}
		}
	}
}

// P7.2: what layer 6's Data tells, of all bytes at once.
func TestEmitData(t *testing.T) {
	var text []byte
	for c := range 256 {
		text = append(text, byte(c), ff, byte(c), cr)
	}
	b := emit.Data(text)
	got, err := gram.Text(b, true)
	if err != nil || !bytes.Equal(got, text) || gram.Rest(b, true) != 0 {
		t.Fatalf("Text(% .60x, true): % .60x, %v", b, got, err)
	}
	mustBegin(t, b, true)
	mustBegin(t, b, false)
}

// someToken is a token by chance, one that layer 6 tells.
func someToken(r *rand.Rand) iac.Token {
	switch r.Intn(6) {
	case 0:
		return iac.Token{Kind: iac.Plain, Code: nop + r.Intn(ga-nop+1)}
	case 1:
		return iac.Token{Kind: iac.Verb, Code: will + r.Intn(4), Option: r.Intn(256)}
	case 2:
		return iac.Token{Kind: iac.Sub, Option: r.Intn(256), Body: someBytes(r, r.Intn(30))}
	}
	return iac.Token{Kind: iac.Data, Code: int(someBytes(r, 1)[0])}
}

// someBytes is bytes by chance, most of them those on which the grammar hangs.
func someBytes(r *rand.Rand, n int) []byte {
	set := []byte{0, lf, cr, cr, 'a', se, nop, ga, sb, will, dont, ff, ff, ff}
	b := make([]byte, n)
	for i := range b {
		b[i] = set[r.Intn(len(set))]
		if r.Intn(4) == 0 {
			b[i] = byte(r.Intn(256))
		}
	}
	return b
}

// P7.2: all that layer 6 tells in long lists, by chance.
func TestEmitLongLists(t *testing.T) {
	r := rand.New(rand.NewSource(72))
	for i := range 200 {
		list := make([]iac.Token, r.Intn(400))
		for j := range list {
			list[j] = someToken(r)
		}
		mustEmit(t, i%20 == 0, list...)
	}
	for _, x := range tokens() {
		mustEmit(t, false, slices.Repeat([]iac.Token{x}, 1000)...)
	}
}

// P7.1, P7.2: rows by chance: of tokens, broken off or spoilt somewhere, and of
// any bytes.
func TestByChance(t *testing.T) {
	r := rand.New(rand.NewSource(71))
	for range 3000 {
		var list []iac.Token
		for range r.Intn(20) {
			list = append(list, someToken(r))
		}
		b, err := emit.All(list)
		if err != nil {
			t.Fatal(err)
		}
		holds(t, b[:r.Intn(len(b)+1)])
		if at := r.Intn(len(b) + 1); at < len(b) {
			b[at] = someBytes(r, 1)[0]
		}
		holds(t, b)
		holds(t, someBytes(r, r.Intn(12)))
	}
}

// P7.1: a long row: as many items as bytes, and each byte is told.
func TestLongRow(t *testing.T) {
	text := bytes.Repeat([]byte{'a', cr, 'b', 0, lf}, 1<<17)
	for _, raw := range []bool{true, false} {
		list, err := gram.Parse(text, raw)
		if err != nil || len(list) != len(text) || list[len(list)-1].To != len(text) {
			t.Fatalf("%v: %d items, %v", raw, len(list), err)
		}
		got, err := gram.Text(text, raw)
		if err != nil || !bytes.Equal(got, text) || gram.Rest(text, raw) != 0 {
			t.Fatalf("%v: %d bytes, %v", raw, len(got), err)
		}
	}
	pairs := bytes.Repeat([]byte{cr, 0, cr, lf}, 1<<17)
	list, err := gram.Parse(pairs, false)
	if err != nil || len(list) != 1<<18 {
		t.Fatalf("%d items, %v", len(list), err)
	}
}

// No two answers, and no two bodies of one answer, share memory with each other
// or with what was given.
func TestAnswersApart(t *testing.T) {
	for _, raw := range []bool{true, false} {
		list := samples(raw)
		row, items, says := laid(append(slices.Clone(list), list...)...)
		theirs, all := given(row)
		a, _ := gram.Parse(theirs, raw)
		b, _ := gram.Parse(theirs, raw)
		c, _ := gram.Text(theirs, raw)
		d, _ := gram.Text(theirs, raw)
		scribbleItems(a)
		scribble(c)
		mustStand(t, all, row)
		scribble(all)
		if !slices.EqualFunc(b, items, same) || !bytes.Equal(d, says) {
			t.Fatalf("%v: an answer shares memory: %+v, % x", raw, b, d)
		}
		for i := range b { // each body by itself
			scribble(b[i].Body)
			if !slices.EqualFunc(b[i+1:], items[i+1:], same) {
				t.Fatalf("%v: the body of item %d shares memory with another one's", raw, i)
			}
		}
	}
}

// What a call refused leaves nothing behind, and the same calls have the same
// answers.
func TestAfterErrors(t *testing.T) {
	for _, raw := range []bool{true, false} {
		for _, wrong := range wrongs() {
			for _, s := range samples(raw) {
				mustRefuse(t, wrong)
				mustBeLaid(t, raw, s)
			}
		}
	}
}

// No bytes make a call panic, or are told otherwise than they should be.
func FuzzHolds(f *testing.F) {
	for _, raw := range []bool{true, false} {
		for _, s := range samples(raw) {
			f.Add(s.b)
		}
		all, _, _ := laid(samples(raw)...)
		f.Add(all)
	}
	for _, b := range wrongs() {
		f.Add(b)
	}
	f.Fuzz(func(t *testing.T, b []byte) {
		holds(t, b)
		for _, raw := range []bool{true, false} {
			if model(b, raw).good {
				mustBegin(t, b, raw)
			}
		}
	})
}
