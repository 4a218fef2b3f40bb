package iac_test

import (
	"bytes"
	"math"
	"math/rand"
	"slices"
	"strings"
	"testing"

	"truchman/api"
	"truchman/iac"
)

// What the chapter's bytes are, told here by their numbers.
const (
	se   = 240
	sb   = 250
	will = 251
	dont = 254
	ff   = 255 // IAC
	most = 256 // bytes of a body
)

// first is the first token of bytes, and how many bytes it has; 0, if it does
// not end in them. It looks at the bytes as a whole, and keeps nothing.
func first(b []byte) (iac.Token, int) {
	switch {
	case len(b) > 0 && b[0] != ff:
		return iac.Token{Kind: 1, Code: int(b[0])}, 1
	case len(b) < 2:
		return iac.Token{}, 0
	case b[1] == ff:
		return iac.Token{Kind: 1, Code: ff}, 2
	case b[1] == sb:
		return firstSub(b)
	case b[1] < will || b[1] > dont:
		return iac.Token{Kind: 2, Code: int(b[1])}, 2
	case len(b) < 3:
		return iac.Token{}, 0
	}
	return iac.Token{Kind: 3, Code: int(b[1]), Option: int(b[2])}, 3
}

// firstSub is first of bytes that begin with IAC, SB.
func firstSub(b []byte) (iac.Token, int) {
	var body []byte
	for i := 3; i < len(b); i++ {
		if b[i] != ff {
			body = append(body, b[i])
			continue
		}
		i++
		switch {
		case i == len(b):
			return iac.Token{}, 0
		case b[i] == ff:
			body = append(body, ff)
		case b[i] == se:
			cut := len(body) > most
			return iac.Token{Kind: 4, Option: int(b[2]), Body: body[:min(len(body), most)], Cut: cut}, i + 1
		default:
			return iac.Token{Kind: 5, Code: int(b[i]), Option: int(b[2])}, i + 1
		}
	}
	return iac.Token{}, 0
}

// model is what should be told of bytes: the tokens, and the places behind
// their last bytes.
func model(b []byte) (list []iac.Token, ends []int) {
	for at := 0; ; {
		x, n := first(b[at:])
		if n == 0 {
			return list, ends
		}
		at += n
		list, ends = append(list, x), append(ends, at)
	}
}

// same holds two tokens against each other, field by field, without Same.
func same(a, b iac.Token) bool {
	return a.Kind == b.Kind && a.Code == b.Code && a.Option == b.Option && string(a.Body) == string(b.Body) && a.Cut == b.Cut
}

// given is bytes, and the same with room behind them that isn't theirs.
func given(b []byte) (theirs, all []byte) {
	all = slices.Concat(b, []byte("####"))
	return all[:len(b)], all
}

// scribble writes over a body, and over the room behind it.
func scribble(x iac.Token) {
	body := x.Body[:cap(x.Body)]
	for i := range body {
		body[i] = '?'
	}
}

// holdsFeed feeds a zero machine byte by byte: at each byte the token that ends
// with it is told, and no other one, and it is idle behind those alone.
func holdsFeed(t *testing.T, b []byte) {
	t.Helper()
	want, ends := model(b)
	var m iac.Tokens
	if !m.Idle() {
		t.Fatal("the zero machine isn't idle")
	}
	for i, c := range b {
		x, is := m.Feed(c)
		ended := len(ends) > 0 && ends[0] == i+1
		if is != ended || m.Idle() != ended || m.Idle() != ended {
			t.Fatalf("% .60x: at byte %d: %v, Idle %v, not %v", b, i, is, m.Idle(), ended)
		}
		var w iac.Token
		if ended {
			w, want, ends = want[0], want[1:], ends[1:]
		}
		if !same(x, w) {
			t.Fatalf("% .60x: at byte %d: %+v, not %+v", b, i, x, w)
		}
		scribble(x)
	}
}

// holdsAll asks for all tokens of bytes, twice, and writes over what is told.
func holdsAll(t *testing.T, b []byte) {
	t.Helper()
	want, ends := model(b)
	whole := len(b) == 0 || len(ends) > 0 && ends[len(ends)-1] == len(b)
	c, all := given(b)
	for range 2 {
		got, is := iac.All(c)
		if is != whole || !slices.EqualFunc(got, want, same) {
			t.Fatalf("All(% .60x): %+v, %v, not %+v, %v", b, got, is, want, whole)
		}
		for _, x := range got {
			scribble(x)
		}
		got = got[:cap(got)]
		clear(got)
	}
	if string(all) != string(b)+"####" {
		t.Fatalf("All(% .60x) changed what it was given: % .60x", b, all)
	}
}

// holds holds Feed, Idle and All against the model.
func holds(t *testing.T, parts ...[]byte) {
	t.Helper()
	b := slices.Concat(parts...)
	holdsFeed(t, b)
	holdsAll(t, b)
}

// mustAll asks for all tokens of bytes that end at a token's end, and holds
// them against what is written down, and so does the model.
func mustAll(t *testing.T, b []byte, want ...iac.Token) {
	t.Helper()
	holds(t, b)
	got, is := iac.All(b)
	if !is || !slices.EqualFunc(got, want, same) {
		t.Fatalf("All(% .60x): %+v, %v, not %+v", b, got, is, want)
	}
}

// bytesOf is a Sub's bytes, of a body in which no byte is doubled yet.
func bytesOf(option byte, body []byte) []byte {
	body = bytes.ReplaceAll(body, []byte{ff}, []byte{ff, ff})
	return slices.Concat([]byte{ff, sb, option}, body, []byte{ff, se})
}

// row is so many bytes, none of them like its neighbours, none of them 255.
func row(n int) []byte {
	b := make([]byte, n)
	for i := range b {
		b[i] = byte(i * 7 % 251)
	}
	return b
}

// sample is a token and its bytes.
type sample struct {
	b     []byte
	token iac.Token
}

// samples is tokens of each kind, of each way in which it can be told.
func samples() []sample {
	long := row(most + 40)
	return []sample{
		{[]byte{'a'}, iac.Token{Kind: iac.Data, Code: 'a'}},
		{[]byte{0}, iac.Token{Kind: iac.Data}},
		{[]byte{se}, iac.Token{Kind: iac.Data, Code: se}},
		{[]byte{sb}, iac.Token{Kind: iac.Data, Code: sb}},
		{[]byte{will}, iac.Token{Kind: iac.Data, Code: will}},
		{[]byte{ff, ff}, iac.Token{Kind: iac.Data, Code: ff}},
		{[]byte{ff, 241}, iac.Token{Kind: iac.Plain, Code: 241}},
		{[]byte{ff, se}, iac.Token{Kind: iac.Plain, Code: se}},
		{[]byte{ff, 0}, iac.Token{Kind: iac.Plain}},
		{[]byte{ff, 253, 1}, iac.Token{Kind: iac.Verb, Code: 253, Option: 1}},
		{[]byte{ff, 252, 0}, iac.Token{Kind: iac.Verb, Code: 252}},
		{[]byte{ff, dont, ff}, iac.Token{Kind: iac.Verb, Code: dont, Option: ff}},
		{[]byte{ff, sb, 24, ff, se}, iac.Token{Kind: iac.Sub, Option: 24}},
		{[]byte{ff, sb, ff, 1, 2, ff, ff, ff, se}, iac.Token{Kind: iac.Sub, Option: ff, Body: []byte{1, 2, ff}}},
		{bytesOf(31, long), iac.Token{Kind: iac.Sub, Option: 31, Body: long[:most], Cut: true}},
		{[]byte{ff, sb, 5, ff, 241}, iac.Token{Kind: iac.Bad, Code: 241, Option: 5}},
		{[]byte{ff, sb, 6, 9, 9, ff, sb}, iac.Token{Kind: iac.Bad, Code: sb, Option: 6}},
		{[]byte{ff, sb, 0, ff, ff, ff, 0}, iac.Token{Kind: iac.Bad}},
	}
}

// P5.1: the kinds' numbers.
func TestKinds(t *testing.T) {
	kinds := []int{iac.Data, iac.Plain, iac.Verb, iac.Sub, iac.Bad}
	if !slices.Equal(kinds, []int{1, 2, 3, 4, 5}) {
		t.Fatal(kinds)
	}
}

// The chapter's example.
func TestExample(t *testing.T) {
	mustAll(t, []byte{255, 253, 1}, iac.Token{Kind: iac.Verb, Code: 253, Option: 1})
}

// P5.1: each kind of token by itself.
func TestEachKind(t *testing.T) {
	for _, s := range samples() {
		mustAll(t, s.b, s.token)
	}
}

// P5.1: each kind behind each other one, and behind itself, and a third one
// behind them.
func TestKindsBehindEachOther(t *testing.T) {
	for _, a := range samples() {
		for _, b := range samples() {
			mustAll(t, slices.Concat(a.b, b.b), a.token, b.token)
			for _, c := range samples() {
				mustAll(t, slices.Concat(a.b, b.b, c.b), a.token, b.token, c.token)
			}
		}
	}
}

// P5.1: every byte as data, 255 told by two of them.
func TestEveryByteAsData(t *testing.T) {
	var text []byte
	var want []iac.Token
	for c := range 256 {
		b := []byte{byte(c)}
		if c == ff {
			b = []byte{ff, ff}
		}
		x := iac.Token{Kind: iac.Data, Code: c}
		mustAll(t, b, x)
		text, want = append(text, b...), append(want, x)
	}
	mustAll(t, text, want...)
	mustAll(t, []byte{ff, ff, ff, ff, ff, ff}, slices.Repeat([]iac.Token{{Kind: iac.Data, Code: ff}}, 3)...)
}

// P5.1: IAC with every byte behind it, and what comes then is read anew.
func TestEveryByteBehindIAC(t *testing.T) {
	for c := range 256 {
		b := []byte{ff, byte(c)}
		holds(t, b)
		got, is := iac.All(b)
		switch {
		case c >= sb && c <= dont: // nothing ends there
			if is || len(got) != 0 {
				t.Errorf("IAC and %d: %+v, %v", c, got, is)
			}
		case c == ff:
			mustAll(t, b, iac.Token{Kind: iac.Data, Code: ff})
		default:
			x := iac.Token{Kind: iac.Plain, Code: c}
			mustAll(t, b, x)
			mustAll(t, append(b, byte(c/2), ff, ff), x, iac.Token{Kind: iac.Data, Code: c / 2}, iac.Token{Kind: iac.Data, Code: ff})
		}
	}
}

// P5.1: every verb with every option, also with those that are commands'
// numbers.
func TestEveryVerbAndOption(t *testing.T) {
	for verb := will; verb <= dont; verb++ {
		for option := range 256 {
			b := []byte{ff, byte(verb), byte(option)}
			x := iac.Token{Kind: iac.Verb, Code: verb, Option: option}
			mustAll(t, b, x)
			mustAll(t, append(b, 'a', ff, ff), x, iac.Token{Kind: iac.Data, Code: 'a'}, iac.Token{Kind: iac.Data, Code: ff})
		}
	}
}

// mustSub holds a Sub of a body of at most MaxSub bytes against what it says,
// and that what comes behind it is read anew.
func mustSub(t *testing.T, option int, body []byte) {
	t.Helper()
	b := bytesOf(byte(option), body)
	x := iac.Token{Kind: iac.Sub, Option: option, Body: body}
	mustAll(t, b, x)
	mustAll(t, append(b, se), x, iac.Token{Kind: iac.Data, Code: se})
}

// P5.1: a Sub with every byte as its option, without a body and with one.
func TestSubOfEveryOption(t *testing.T) {
	for option := range 256 {
		mustSub(t, option, nil)
		mustSub(t, option, []byte{byte(option)})
		mustSub(t, option, []byte{1, 2, 3})
		mustSub(t, option, row(most))
	}
}

// P5.1: every byte in a body, by itself, behind others and ahead of them.
func TestSubOfEveryByte(t *testing.T) {
	for c := range 256 {
		b := byte(c)
		mustSub(t, 24, []byte{b})
		mustSub(t, 24, []byte{b, b})
		mustSub(t, 24, []byte{b, 7})
		mustSub(t, 24, []byte{7, b})
		mustSub(t, 24, []byte{ff, b, ff})
		mustSub(t, 24, []byte{b, ff, se, b})
	}
}

// P5.1: bytes 255 at each place of a body, and a body of nothing else.
func TestSubOfBytes255(t *testing.T) {
	for _, n := range []int{1, 2, 3, most - 1, most} {
		mustSub(t, 1, bytes.Repeat([]byte{ff}, n))
		for i := range n {
			body := row(n)
			body[i] = ff
			mustSub(t, 1, body)
		}
	}
}

// P5.1, P5.2: a body of MaxSub bytes, of one less, of one more and of many
// more: its first MaxSub bytes, and whether there are more.
func TestSubOfManyBytes(t *testing.T) {
	if most != api.MaxSub {
		t.Fatal(api.MaxSub)
	}
	for _, n := range []int{0, 1, most - 2, most - 1, most, most + 1, most + 2, 2*most - 1, 2 * most, 2*most + 1, 1 << 16, 1<<16 + 1} {
		nines := bytes.Repeat([]byte{ff}, n)
		for _, body := range [][]byte{row(n), nines} {
			x := iac.Token{Kind: iac.Sub, Option: 9, Body: body[:min(n, most)], Cut: n > most}
			b := bytesOf(9, body)
			mustAll(t, b, x)
			// What was cut off once is told of no other one.
			mustAll(t, slices.Concat(b, bytesOf(8, []byte{7}), bytesOf(7, nil), b), x,
				iac.Token{Kind: iac.Sub, Option: 8, Body: []byte{7}}, iac.Token{Kind: iac.Sub, Option: 7}, x)
		}
	}
}

// P5.1: bytes 255 at the places at which a body is cut: each counts as one.
func TestSubCutAtBytes255(t *testing.T) {
	for n := most - 3; n <= most+3; n++ {
		for i := most - 3; i < n; i++ {
			for j := most - 3; j < n; j++ {
				body := row(n)
				body[i], body[j] = ff, ff
				mustAll(t, bytesOf(2, body), iac.Token{Kind: iac.Sub, Option: 2, Body: body[:min(n, most)], Cut: n > most})
			}
		}
	}
}

// P5.1: a Bad at every byte that is neither IAC nor SE, without a body, with
// one, and with one of more than MaxSub bytes: that byte is looked at no more.
func TestBad(t *testing.T) {
	bodies := [][]byte{nil, {0}, {9, 8}, {ff, ff}, {se, sb, ff, ff, se}, row(most - 1), row(most), row(most + 1), row(5 * most)}
	for c := range 256 {
		if c == ff || c == se {
			continue
		}
		for _, body := range bodies {
			b := slices.Concat([]byte{ff, sb, 31}, body, []byte{ff, byte(c)})
			x := iac.Token{Kind: iac.Bad, Code: c, Option: 31}
			mustAll(t, b, x)
			mustAll(t, slices.Concat(b, []byte{1, ff, ff, 'a'}), x,
				iac.Token{Kind: iac.Data, Code: 1}, iac.Token{Kind: iac.Data, Code: ff}, iac.Token{Kind: iac.Data, Code: 'a'})
			mustAll(t, slices.Concat(b, []byte{ff, se}), x, iac.Token{Kind: iac.Plain, Code: se})
			// Nothing of it is told of the next one.
			mustAll(t, slices.Concat(b, bytesOf(3, []byte{4})), x, iac.Token{Kind: iac.Sub, Option: 3, Body: []byte{4}})
		}
	}
}

// P5.1: a Bad of every option.
func TestBadOfEveryOption(t *testing.T) {
	for option := range 256 {
		mustAll(t, []byte{ff, sb, byte(option), ff, 1}, iac.Token{Kind: iac.Bad, Code: 1, Option: option})
		mustAll(t, []byte{ff, sb, byte(option), byte(option) / 2, ff, sb}, iac.Token{Kind: iac.Bad, Code: sb, Option: option})
	}
}

// P5.1: what a token's kind doesn't have is zero, also behind tokens that have
// it.
func TestWhatAKindHasNot(t *testing.T) {
	for _, a := range samples() {
		for _, b := range samples() {
			got, is := iac.All(slices.Concat(a.b, b.b))
			if !is || len(got) != 2 {
				t.Fatalf("%+v, %v", got, is)
			}
			x := got[1]
			if x.Kind == iac.Sub && x.Code != 0 {
				t.Errorf("a Sub with a Code: %+v", x)
			}
			if (x.Kind == iac.Data || x.Kind == iac.Plain) && x.Option != 0 {
				t.Errorf("one with an Option: %+v", x)
			}
			if x.Kind != iac.Sub && (len(x.Body) != 0 || x.Cut) {
				t.Errorf("one with a Body, or Cut: %+v", x)
			}
		}
	}
}

// P5.1: at which byte each token is told, and Idle behind every byte, written
// down: a point where none ends, the kind's figure where one does.
func TestAtWhichByte(t *testing.T) {
	for _, row := range []struct {
		b    []byte
		told string
	}{
		{[]byte{'a', 0, 254, 13, 10}, "11111"},
		{[]byte{ff, ff, 'a', ff, ff, ff, ff}, ".11.1.1"},
		{[]byte{ff, 241, 241, ff, se}, ".21.2"},
		{[]byte{ff, will, 1, ff, dont, ff, ff, ff}, "..3..3.1"},
		{[]byte{ff, sb, 1, ff, se, 'a'}, "....41"},
		{[]byte{ff, sb, ff, ff, se, ff, ff}, "....4.1"},
		{[]byte{ff, sb, se, se, sb, ff, ff, ff, se}, "........4"},
		{[]byte{ff, sb, 1, ff, ff, ff, ff, ff, se}, "........4"},
		{[]byte{ff, sb, 1, ff, will, 1, 'a'}, "....511"},
		{[]byte{ff, sb, 1, 2, ff, sb, ff, se}, ".....5.2"},
		{[]byte{ff, sb, ff, ff, ff, ff, 0, ff, 0}, "......5.2"},
	} {
		var m iac.Tokens
		told := strings.Builder{}
		for _, c := range row.b {
			x, is := m.Feed(c)
			if is != m.Idle() {
				t.Errorf("% x: told %v, Idle %v", row.b, is, m.Idle())
			}
			if is {
				told.WriteByte(byte('0' + x.Kind))
			} else {
				told.WriteByte('.')
			}
		}
		if told.String() != row.told {
			t.Errorf("% x: %s, not %s", row.b, told.String(), row.told)
		}
		holds(t, row.b)
	}
}

// P5.1: All of no bytes.
func TestAllOfNothing(t *testing.T) {
	for _, b := range [][]byte{nil, {}, []byte("abc")[:0]} {
		if list, is := iac.All(b); len(list) != 0 || !is {
			t.Errorf("%+v, %v", list, is)
		}
	}
}

// P5.1: All of rows that end in the middle of a token, at each place where one
// can, with each token ahead of it: those ahead are told, and it isn't.
func TestAllInTheMiddle(t *testing.T) {
	for _, ahead := range samples() {
		for _, s := range samples() {
			for n := 1; n < len(s.b); n++ {
				b := slices.Concat(ahead.b, s.b[:n])
				holds(t, b)
				got, is := iac.All(b)
				if is || len(got) != 1 || !same(got[0], ahead.token) {
					t.Fatalf("All(% .60x): %+v, %v", b, got, is)
				}
				if got, is := iac.All(s.b[:n]); is || len(got) != 0 {
					t.Fatalf("All(% .60x): %+v, %v", s.b[:n], got, is)
				}
			}
		}
	}
}

// everyRow goes through all rows of at most n of the bytes.
func everyRow(of []byte, n int, do func(b []byte)) {
	var more func(b []byte)
	more = func(b []byte) {
		do(b)
		if len(b) == n {
			return
		}
		for _, c := range of {
			more(append(b, c))
		}
	}
	more(make([]byte, 0, n))
}

// P5.1: all short rows of the bytes that mean something.
func TestEveryShortRow(t *testing.T) {
	do := func(b []byte) { holds(t, b) }
	everyRow([]byte{0, 'a', 239, se, 241, 249, sb, will, dont, ff}, 4, do)
	everyRow([]byte{1, se, sb, 252, ff}, 6, do)
	everyRow([]byte{se, sb, ff}, 9, do)
	everyRow([]byte{7, se, ff}, 8, func(b []byte) { holds(t, []byte{ff, sb, 1}, b) })
}

// walk is bytes as they come by chance, with some longer bodies.
func walk(r *rand.Rand) []byte {
	often := []byte{ff, ff, ff, ff, sb, sb, se, will, dont, 241, 'a', 0}
	var b []byte
	for range r.Intn(60) {
		switch k := r.Intn(20); {
		case k < 14:
			b = append(b, often[r.Intn(len(often))])
		case k < 18:
			b = append(b, byte(r.Intn(256)))
		case k < 19:
			b = append(b, bytesOf(byte(r.Intn(256)), row(r.Intn(2*most)))...)
		default:
			b = append(append(b, ff, sb), row(most-8+r.Intn(16))...)
		}
	}
	return b
}

// P5.1: long rows.
func TestWalks(t *testing.T) {
	r := rand.New(rand.NewSource(51))
	for range 3000 {
		holds(t, walk(r))
	}
}

// feed feeds bytes: the tokens that are told.
func feed(m *iac.Tokens, b []byte) (list []iac.Token) {
	for _, c := range b {
		if x, is := m.Feed(c); is {
			list = append(list, x)
		}
	}
	return list
}

// mustPart feeds bytes in two parts, and holds the tokens against those of
// the whole.
func mustPart(t *testing.T, b []byte, at int) {
	t.Helper()
	whole, ends := iac.All(b)
	ahead, isEnd := iac.All(b[:at])
	var m iac.Tokens
	got := feed(&m, b[:at])
	if !slices.EqualFunc(got, ahead, same) || m.Idle() != isEnd {
		t.Fatalf("% .60x up to %d: %+v, %v, not %+v, %v", b, at, got, m.Idle(), ahead, isEnd)
	}
	got = append(got, feed(&m, b[at:])...)
	if !slices.EqualFunc(got, whole, same) || m.Idle() != ends {
		t.Fatalf("% .60x parted at %d: %+v, %v, not %+v, %v", b, at, got, m.Idle(), whole, ends)
	}
	if !isEnd {
		return
	}
	behind, endsToo := iac.All(b[at:])
	if !slices.EqualFunc(slices.Concat(ahead, behind), whole, same) || endsToo != ends {
		t.Fatalf("% .60x parted at a token's end, %d: %+v and %+v, not %+v", b, at, ahead, behind, whole)
	}
}

// P5.2: the same bytes at once and in two parts, at each place.
func TestParted(t *testing.T) {
	var all []byte
	for _, s := range samples() {
		all = append(all, s.b...)
	}
	rows := [][]byte{nil, all}
	r := rand.New(rand.NewSource(52))
	for range 20 {
		rows = append(rows, walk(r))
	}
	for _, b := range rows {
		for at := range min(len(b), 1000) + 1 {
			mustPart(t, b, at)
		}
	}
}

// P5.2: the same bytes in many parts, and some of them empty.
func TestInManyParts(t *testing.T) {
	r := rand.New(rand.NewSource(55))
	for range 500 {
		b := walk(r)
		want, ends := iac.All(b)
		var m iac.Tokens
		var got []iac.Token
		for left := b; len(left) > 0; {
			n := min(r.Intn(9), len(left))
			got = append(got, feed(&m, left[:n])...)
			left = left[n:]
		}
		if !slices.EqualFunc(got, want, same) || m.Idle() != ends {
			t.Fatalf("% .60x: %+v, %v, not %+v, %v", b, got, m.Idle(), want, ends)
		}
	}
}

// P5.2: many machines, fed in turn with parts of rows of their own, know
// nothing of each other.
func TestMachinesApart(t *testing.T) {
	r := rand.New(rand.NewSource(53))
	for range 200 {
		var machines [5]iac.Tokens
		var rows, left [5][]byte
		var got [5][]iac.Token
		for i := range rows {
			rows[i] = walk(r)
			left[i] = rows[i]
		}
		for range 400 {
			i := r.Intn(len(rows))
			n := min(r.Intn(40), len(left[i]))
			got[i] = append(got[i], feed(&machines[i], left[i][:n])...)
			left[i] = left[i][n:]
		}
		for i, b := range rows {
			got[i] = append(got[i], feed(&machines[i], left[i])...)
			want, ends := iac.All(b)
			if !slices.EqualFunc(got[i], want, same) || machines[i].Idle() != ends {
				t.Fatalf("% .60x: %+v, not %+v", b, got[i], want)
			}
		}
	}
}

// P5.2: no body is longer than MaxSub, whatever the bytes.
func TestNoLongerBody(t *testing.T) {
	r := rand.New(rand.NewSource(54))
	for range 400 {
		body := row(r.Intn(4 * most))
		for i := range body {
			if r.Intn(3) == 0 {
				body[i] = ff
			}
		}
		got, _ := iac.All(slices.Concat(walk(r), bytesOf(1, body)))
		for _, x := range got {
			if len(x.Body) > api.MaxSub || x.Cut && len(x.Body) < api.MaxSub {
				t.Fatalf("%d bytes, Cut %v", len(x.Body), x.Cut)
			}
		}
	}
}

// mustSame asks whether two tokens are the same, either way round, and that
// nothing is changed by that.
func mustSame(t *testing.T, a, b iac.Token, want bool) {
	t.Helper()
	bodies := [][]byte{bytes.Clone(a.Body[:cap(a.Body)]), bytes.Clone(b.Body[:cap(b.Body)])}
	if iac.Same(a, b) != want || iac.Same(b, a) != want {
		t.Errorf("Same(%+v, %+v) isn't %v", a, b, want)
	}
	if !bytes.Equal(bodies[0], a.Body[:cap(a.Body)]) || !bytes.Equal(bodies[1], b.Body[:cap(b.Body)]) {
		t.Errorf("Same changed what it was given: %+v, %+v", a, b)
	}
}

// P5.1: Same of tokens that differ in one field alone, each field in turn,
// whatever the kind and the numbers.
func TestSameOfOneField(t *testing.T) {
	numbers := []int{0, 1, 2, 3, 4, 5, 6, 255, 256, 257, -1, math.MinInt, math.MaxInt, 1 << 32}
	for kind := -1; kind <= 6; kind++ {
		a := iac.Token{Kind: kind, Code: 7, Option: 8, Body: []byte{1, 2, 3}, Cut: true}
		mustSame(t, a, a, true)
		for _, n := range numbers {
			b := a
			b.Kind = n
			mustSame(t, a, b, n == kind)
			b = a
			b.Code = n
			mustSame(t, a, b, false)
			b = a
			b.Option = n
			mustSame(t, a, b, false)
		}
		b := a
		b.Cut = false
		mustSame(t, a, b, false)
		b = a
		b.Code, b.Option = a.Option, a.Code
		mustSame(t, a, b, false)
		for _, body := range [][]byte{nil, {}, {1}, {1, 2}, {2, 3}, {0, 2, 3}, {1, 0, 3}, {1, 2, 0}, {1, 2, 3, 0}, {1, 2, 3, 4}, {3, 2, 1}} {
			b = a
			b.Body = body
			mustSame(t, a, b, false)
		}
	}
}

// P5.1: Same of bodies that are none or empty, of equal bodies that are not
// one, of those with other bytes behind them, and of long ones.
func TestSameOfBodies(t *testing.T) {
	none, empty := iac.Token{Kind: iac.Sub, Option: 1}, iac.Token{Kind: iac.Sub, Option: 1, Body: []byte{}}
	ended := iac.Token{Kind: iac.Sub, Option: 1, Body: []byte{9, 9}[:0]}
	one := iac.Token{Kind: iac.Sub, Option: 1, Body: []byte{0}}
	for _, a := range []iac.Token{none, empty, ended} {
		for _, b := range []iac.Token{none, empty, ended} {
			mustSame(t, a, b, true)
		}
		mustSame(t, a, one, false)
	}
	mustSame(t, iac.Token{}, iac.Token{}, true)
	mustSame(t, iac.Token{}, iac.Token{Body: []byte{}}, true)
	mustSame(t, iac.Token{Body: []byte{1, 2, 3}[:2]}, iac.Token{Body: []byte{1, 2, 4}[:2]}, true)
	mustSame(t, iac.Token{Body: row(4000)}, iac.Token{Body: row(4000)}, true)
	other := row(4000)
	other[3999]++
	mustSame(t, iac.Token{Body: row(4000)}, iac.Token{Body: other}, false)
	mustSame(t, iac.Token{Body: row(4000)}, iac.Token{Body: row(3999)}, false)
}

// P5.1: Same of the tokens that are read: each is the same as itself alone.
func TestSameOfSamples(t *testing.T) {
	for i, a := range samples() {
		for j, b := range samples() {
			mustSame(t, a.token, b.token, i == j)
		}
	}
}

// P5.1: Word of each kind, and of numbers that are none.
func TestWord(t *testing.T) {
	words := map[int]string{1: "data", 2: "plain", 3: "verb", 4: "sub", 5: "bad"}
	numbers := []int{math.MinInt, math.MinInt + 1, math.MaxInt, 1<<32 + 1, 1<<16 + 2, 1<<8 + 3, -1 << 32}
	for n := -300; n <= 300; n++ {
		numbers = append(numbers, n)
	}
	for _, n := range numbers {
		if got := iac.Word(n); got != words[n] {
			t.Errorf("Word(%d): %q, not %q", n, got, words[n])
		}
	}
}

// What is told shares no memory with what is told later, or with what the
// machine still holds: each is written over in the middle of the next one.
func TestFeedSharesNothing(t *testing.T) {
	for _, n := range []int{1, 8, most - 1, most, most + 1} {
		body := row(n)
		b := bytesOf(1, body)
		want := iac.Token{Kind: iac.Sub, Option: 1, Body: body[:min(n, most)], Cut: n > most}
		for at := range len(b) {
			var m iac.Tokens
			a := feed(&m, b)[0]
			got := feed(&m, b[:at])
			if !same(a, want) {
				t.Fatalf("%d bytes: reading changed what was told", n)
			}
			scribble(a)
			got = append(got, feed(&m, b[at:])...)
			if len(got) != 1 || !same(got[0], want) {
				t.Fatalf("%d bytes, written over at byte %d: %+v", n, at, got)
			}
			scribble(got[0])
			if more := feed(&m, b); len(more) != 1 || !same(more[0], want) {
				t.Fatalf("%d bytes, written over behind it: %+v", n, more)
			}
		}
	}
}

// What All tells shares no memory with what it was given, and no two bodies of
// it, or of two calls, with each other.
func TestAllSharesNothing(t *testing.T) {
	for _, n := range []int{0, 1, 8, most, most + 1} {
		b := slices.Repeat(bytesOf(1, row(n)), 3)
		want, _ := model(bytes.Clone(b))
		c, all := given(b)
		once, _ := iac.All(c)
		again, _ := iac.All(c)
		for i := range once {
			scribble(once[i])
			if !slices.EqualFunc(once[i+1:], want[i+1:], same) || !slices.EqualFunc(again, want, same) {
				t.Fatalf("%d bytes: body %d is another's, too", n, i)
			}
		}
		if string(all) != string(b)+"####" {
			t.Fatalf("%d bytes: a body is of what was given", n)
		}
		for i := range all {
			all[i] = '!'
		}
		if !slices.EqualFunc(again, want, same) {
			t.Fatalf("%d bytes: what was given is in a body", n)
		}
	}
}

// No row of bytes makes a call panic, or is told otherwise than by the model.
func FuzzAll(f *testing.F) {
	for _, s := range samples() {
		f.Add(s.b)
	}
	f.Fuzz(func(t *testing.T, b []byte) { holds(t, b) })
}
