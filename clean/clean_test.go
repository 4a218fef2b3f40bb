package clean_test

import (
	"bytes"
	"math"
	"math/rand"
	"slices"
	"testing"

	"truchman/clean"
	"truchman/codes"
	"truchman/emit"
	"truchman/iac"
	"truchman/nvt"
)

// What the chapter's bytes are, told here by their numbers.
const (
	lf   = 10
	cr   = 13
	se   = 240
	nop  = 241
	dm   = 242
	sb   = 250
	will = 251
	do   = 253
	ff   = 255 // IAC
	most = 256 // bytes of a body
)

// ways is raw, and not raw.
var ways = []bool{true, false}

// few is the bytes on which the rules hang, and one that is like others.
var few = []byte{0, lf, cr, 'A', se, dm, sb, will, ff}

// coming is bytes that come in, each one with a mark or without, raw or not.
type coming struct {
	b           []byte
	marks, raws []bool
}

// comes is bytes with marks at places, all raw or none.
func comes(b []byte, marks []int, raw bool) coming {
	r := coming{b, make([]bool, len(b)), slices.Repeat([]bool{raw}, len(b))}
	for i := range b {
		r.marks[i] = slices.Contains(marks, i)
	}
	return r
}

// ended is a token of layer 5, and the place of the byte with which it ends.
type ended struct {
	token iac.Token
	at    int
}

// tokensOf is layer 5's tokens of bytes, and behind which bytes it stands
// between tokens.
func tokensOf(b []byte) (list []ended, idle []bool) {
	var m iac.Tokens
	for i, c := range b {
		if x, is := m.Feed(c); is {
			list = append(list, ended{x, i})
		}
		idle = append(idle, m.Idle())
	}
	return list, idle
}

// isDeaf tells whether data that end at a place are left out: whether no DM ends
// from the last mark on up to there. (Behind the earlier ones it ends, too.)
func (r coming) isDeaf(list []ended, at int) bool {
	last := at
	for last >= 0 && !r.marks[last] {
		last--
	}
	return last >= 0 && !slices.ContainsFunc(list, func(x ended) bool {
		return x.token.Kind == 2 && x.token.Code == dm && last <= x.at && x.at <= at
	})
}

// model is what should be told: the tokens, with the places at which they end,
// and behind which bytes data are left out and it stands between tokens. It
// looks at the bytes as a whole.
func (r coming) model() (stay []ended, deaf, idle []bool) {
	list, idle := tokensOf(r.b)
	for i := range r.b {
		deaf = append(deaf, r.isDeaf(list, i))
	}
	heard := slices.DeleteFunc(slices.Clone(list), func(x ended) bool {
		return x.token.Kind == 1 && deaf[x.at]
	})
	data := slices.DeleteFunc(slices.Clone(heard), func(x ended) bool { return x.token.Kind != 1 })
	for _, x := range heard {
		i := slices.IndexFunc(data, func(d ended) bool { return d.at == x.at })
		if i < 1 || x.token.Code != 0 || r.raws[x.at] || data[i-1].token.Code != cr || r.raws[data[i-1].at] {
			stay = append(stay, x)
		}
	}
	return stay, deaf, idle
}

// same holds two tokens against each other, field by field.
func same(a, b iac.Token) bool {
	return a.Kind == b.Kind && a.Code == b.Code && a.Option == b.Option && string(a.Body) == string(b.Body) && a.Cut == b.Cut
}

// bare is tokens without their places.
func bare(list []ended) []iac.Token {
	var tokens []iac.Token
	for _, x := range list {
		tokens = append(tokens, x.token)
	}
	return tokens
}

// dataOf is the data of tokens, as bytes.
func dataOf(list []iac.Token) []byte {
	var data []byte
	for _, x := range list {
		if x.Kind == 1 {
			data = append(data, byte(x.Code))
		}
	}
	return data
}

// scribble writes over bytes, and over the room behind them.
func scribble(b []byte) {
	b = b[:cap(b)]
	for i := range b {
		b[i] = '?'
	}
}

// mustStep holds what a cleaner tells behind a byte against what it should tell,
// asked many times.
func mustStep(t *testing.T, k *clean.Cleaner, r coming, at int, deaf, idle bool) {
	t.Helper()
	for range 3 {
		if k.Deaf() != deaf || k.Idle() != idle {
			t.Fatalf("% .60x, marks %v: behind byte %d: Deaf %v, Idle %v, not %v, %v", r.b, r.marks, at, k.Deaf(), k.Idle(), deaf, idle)
		}
	}
}

// holdsFeed feeds two zero cleaners byte by byte, of which one is asked for
// nothing else: at each byte the token that ends with it is told, if it stays,
// and no other one. What is told is written over.
func holdsFeed(t *testing.T, r coming) {
	t.Helper()
	want, deaf, idle := r.model()
	var asked, unasked clean.Cleaner
	mustStep(t, &asked, r, -1, false, true)
	for i, c := range r.b {
		var w iac.Token
		is := len(want) > 0 && want[0].at == i
		if is {
			w, want = want[0].token, want[1:]
		}
		for _, k := range []*clean.Cleaner{&asked, &unasked} {
			if x, was := k.Feed(c, r.marks[i], r.raws[i]); was != is || !same(x, w) {
				t.Fatalf("% .60x, marks %v, raw %v: at byte %d: %+v, %v, not %+v, %v", r.b, r.marks, r.raws, i, x, was, w, is)
			} else {
				scribble(x.Body)
			}
		}
		mustStep(t, &asked, r, i, deaf[i], idle[i])
	}
	if n := len(r.b); n > 0 {
		mustStep(t, &unasked, r, n-1, deaf[n-1], idle[n-1])
	}
}

// given is bytes and marks, and the same with room behind them that isn't
// theirs. The room would end a token, and have marks, if it were looked at.
func given(b []byte, marks []int) (theirs, all []byte, places, more []int) {
	all, more = slices.Concat(b, []byte{ff, ff, se, 'x'}), slices.Concat(marks, []int{0, 1, 2, 3})
	return all[:len(b)], all, more[:len(marks)], more
}

// mustStand holds what given made against what it was made of.
func mustStand(t *testing.T, b []byte, marks []int, all []byte, more []int) {
	t.Helper()
	if !bytes.Equal(all, slices.Concat(b, []byte{ff, ff, se, 'x'})) || !slices.Equal(more, slices.Concat(marks, []int{0, 1, 2, 3})) {
		t.Fatalf("what was given is changed: % .60x, %v; it was % .60x, %v", all, more, b, marks)
	}
}

// mustAnswer holds All and Data, each asked twice, against the tokens that they
// should tell, and writes over what is told.
func mustAnswer(t *testing.T, b []byte, marks []int, raw bool, want []iac.Token) {
	t.Helper()
	theirs, all, places, more := given(b, marks)
	data := dataOf(want)
	for range 2 {
		got := clean.All(theirs, places, raw)
		if !slices.EqualFunc(got, want, same) {
			t.Fatalf("All(% .60x, %v, %v): %+v, not %+v", b, marks, raw, got, want)
		}
		for i, x := range got {
			if !same(x, want[i]) {
				t.Fatalf("All(% .60x, %v, %v): body %d shares memory with one ahead of it", b, marks, raw, i)
			}
			scribble(x.Body)
		}
		clear(got[:cap(got)])
		d := clean.Data(theirs, places, raw)
		if !bytes.Equal(d, data) {
			t.Fatalf("Data(% .60x, %v, %v): % .60x, not % .60x", b, marks, raw, d, data)
		}
		scribble(d)
		mustStand(t, b, marks, all, more)
	}
}

// holds holds all calls against the model, of bytes with marks at places.
func holds(t *testing.T, b []byte, marks []int, raw bool) {
	t.Helper()
	r := comes(b, marks, raw)
	stay, _, _ := r.model()
	holdsFeed(t, r)
	mustAnswer(t, b, marks, raw, bare(stay))
}

// mustTell holds all calls against what is written down, and so the model.
func mustTell(t *testing.T, b []byte, marks []int, raw bool, want ...iac.Token) {
	t.Helper()
	stay, _, _ := comes(b, marks, raw).model()
	if got := bare(stay); !slices.EqualFunc(got, want, same) {
		t.Fatalf("the model of % .60x, %v, %v: %+v, not %+v", b, marks, raw, got, want)
	}
	holds(t, b, marks, raw)
}

// data is a token of data.
func data(c byte) iac.Token { return iac.Token{Kind: iac.Data, Code: int(c)} }

// plain is a token of a plain command.
func plain(code int) iac.Token { return iac.Token{Kind: iac.Plain, Code: code} }

// row is so many bytes, none of them like its neighbours, none of them 255.
func row(n int) []byte {
	b := make([]byte, n)
	for i := range b {
		b[i] = byte(i * 7 % 251)
	}
	return b
}

// sample is a token and its bytes.
type sample struct {
	b     []byte
	token iac.Token
}

// others is tokens that aren't data, none of them a DM, though they have its
// byte, or that of a 13 or a 0, wherever they can.
func others() []sample {
	long := row(most + 5)
	bad := func(code, option int) iac.Token { return iac.Token{Kind: iac.Bad, Code: code, Option: option} }
	return []sample{
		{[]byte{ff, nop}, plain(nop)},
		{[]byte{ff, 0}, plain(0)},
		{[]byte{ff, cr}, plain(cr)},
		{[]byte{ff, se}, plain(se)},
		{[]byte{ff, do, 1}, iac.Token{Kind: iac.Verb, Code: do, Option: 1}},
		{[]byte{ff, will, dm}, iac.Token{Kind: iac.Verb, Code: will, Option: dm}},
		{[]byte{ff, will, cr}, iac.Token{Kind: iac.Verb, Code: will, Option: cr}},
		{[]byte{ff, do, ff}, iac.Token{Kind: iac.Verb, Code: do, Option: ff}},
		{[]byte{ff, sb, dm, ff, se}, iac.Token{Kind: iac.Sub, Option: dm}},
		{[]byte{ff, sb, 24, cr, 0, ff, ff, dm, ff, se}, iac.Token{Kind: iac.Sub, Option: 24, Body: []byte{cr, 0, ff, dm}}},
		{slices.Concat([]byte{ff, sb, 31}, long, []byte{ff, se}), iac.Token{Kind: iac.Sub, Option: 31, Body: long[:most], Cut: true}},
		{[]byte{ff, sb, 5, ff, dm}, bad(dm, 5)},
		{[]byte{ff, sb, cr, 0, ff, ff, ff, 0}, bad(0, cr)},
	}
}

// eachRow tells each row of so many bytes of a set.
func eachRow(set []byte, n int, tell func(b []byte)) {
	rows := [][]byte{nil}
	for range n {
		var longer [][]byte
		for _, b := range rows {
			for _, c := range set {
				longer = append(longer, append(slices.Clone(b), c))
			}
		}
		rows = longer
	}
	for _, b := range rows {
		tell(b)
	}
}

// eachWay tells each way in which so many bytes can be one of two things.
func eachWay(n int, tell func(way []bool)) {
	for bits := range 1 << n {
		way := make([]bool, n)
		for i := range way {
			way[i] = bits>>i&1 == 1
		}
		tell(way)
	}
}

// holdsEachMark holds all calls of bytes without marks and with one at each
// place, raw and not raw.
func holdsEachMark(t *testing.T, b []byte) {
	t.Helper()
	for _, raw := range ways {
		holds(t, b, nil, raw)
		for i := range b {
			holds(t, b, []int{i}, raw)
		}
	}
}

// The chapter's example.
func TestExample(t *testing.T) {
	b := []byte{'a', 'b', 'c', 255, 242, 'd'}
	for _, raw := range ways {
		mustTell(t, b, []int{1}, raw, data('a'), plain(242), data('d'))
		if got := clean.Data(b, []int{1}, raw); string(got) != "ad" {
			t.Fatalf("% x", got)
		}
	}
}

// P9.1: no bytes.
func TestNoBytes(t *testing.T) {
	for _, b := range [][]byte{nil, {}, []byte("ab")[:0]} {
		for _, raw := range ways {
			for _, marks := range [][]int{nil, {}, {0}, {-1, 0, 1}} {
				mustTell(t, b, marks, raw)
			}
		}
	}
}

// P9.1: each byte by itself, without a mark and with one.
func TestEachByte(t *testing.T) {
	for c := range 256 {
		b := []byte{byte(c)}
		for _, raw := range ways {
			if c == ff {
				mustTell(t, b, nil, raw)
			} else {
				mustTell(t, b, nil, raw, data(byte(c)))
			}
			mustTell(t, b, []int{0}, raw)
		}
	}
}

// P9.1: each two bytes, without a mark and with one at each place.
func TestEachTwoBytes(t *testing.T) {
	for c := range 256 {
		for d := range 256 {
			holdsEachMark(t, []byte{byte(c), byte(d)})
		}
	}
}

// P9.1: rows of few, without a mark and with one at each place.
func TestEachOfASmallSet(t *testing.T) {
	for n := range 5 {
		eachRow(few, n, func(b []byte) { holdsEachMark(t, b) })
	}
}

// P9.1: rows of fewer, each byte with a mark or without, raw or not.
func TestEachWayOfASmallSet(t *testing.T) {
	fewer := []byte{0, cr, 'A', dm, ff}
	for n := range 5 {
		eachRow(fewer, n, func(b []byte) {
			eachWay(n, func(marks []bool) {
				eachWay(n, func(raws []bool) { holdsFeed(t, coming{b, marks, raws}) })
			})
		})
	}
}

// P9.1: a mark at data, at the first and at the second byte of a doubled 255,
// and at each byte of a DM, written down.
func TestMarkAtDataAndDM(t *testing.T) {
	b := []byte{'a', ff, ff, 'b', ff, dm, 'c', ff, dm}
	a, nine, c, d := data('a'), data(ff), data('c'), plain(dm)
	for _, raw := range ways {
		mustTell(t, b, nil, raw, a, nine, data('b'), d, c, d)
		mustTell(t, b, []int{0}, raw, d, c, d)
		mustTell(t, b, []int{1}, raw, a, d, c, d)
		mustTell(t, b, []int{2}, raw, a, d, c, d)
		mustTell(t, b, []int{3}, raw, a, nine, d, c, d)
		mustTell(t, b, []int{4}, raw, a, nine, data('b'), d, c, d)
		mustTell(t, b, []int{5}, raw, a, nine, data('b'), d, c, d)
		mustTell(t, b, []int{6}, raw, a, nine, data('b'), d, d)
		mustTell(t, b, []int{7}, raw, a, nine, data('b'), d, c, d)
		mustTell(t, b, []int{8}, raw, a, nine, data('b'), d, c, d)
	}
}

// P9.1: a byte 242 that is data, or stands in what is no plain command, is no
// DM: a Synch goes on.
func TestNoDM(t *testing.T) {
	for _, raw := range ways {
		mustTell(t, []byte{'a', dm, 'b'}, []int{0}, raw)
		mustTell(t, []byte{'a', ff, ff, dm, 'b'}, []int{0}, raw)
		mustTell(t, []byte{'a', ff, ff, ff, dm, 'b'}, []int{0}, raw, plain(dm), data('b'))
		for code := nop; code <= 249; code++ {
			if code != dm {
				mustTell(t, []byte{'a', ff, byte(code), 'b'}, []int{0}, raw, plain(code))
			}
		}
		for _, s := range others() {
			mustTell(t, slices.Concat([]byte{'a'}, s.b, []byte("b")), []int{0}, raw, s.token)
		}
	}
}

// P9.1: a mark at each byte of a plain command, of a verb, of a subnegotiation
// (one that is cut, too), and of a bad one: that one stays, what is behind is
// left out, and behind the DM nothing is.
func TestMarkAtOthers(t *testing.T) {
	for _, s := range others() {
		b := slices.Concat([]byte{'a'}, s.b, []byte{'b', ff, ff, ff, dm, 'c'})
		for _, raw := range ways {
			mustTell(t, b, nil, raw, data('a'), s.token, data('b'), data(ff), plain(dm), data('c'))
			for i := range s.b {
				mustTell(t, b, []int{1 + i}, raw, data('a'), s.token, plain(dm), data('c'))
			}
		}
	}
}

// P9.1: tokens that aren't data, between a mark and its DM: all stay.
func TestOthersInASynch(t *testing.T) {
	b, want := []byte{'a', 'b'}, []iac.Token{data('a')}
	for _, s := range others() {
		b, want = slices.Concat(b, s.b, []byte{0, 'x', ff, ff, cr}), append(want, s.token)
	}
	b, want = append(b, ff, dm, 'c'), append(want, plain(dm), data('c'))
	for _, raw := range ways {
		mustTell(t, b, []int{1}, raw, want...)
	}
}

// P9.1: two marks, the second one ahead of the DM, within it and behind it.
func TestTwoMarks(t *testing.T) {
	b := []byte{'a', 'b', 'c', ff, dm, 'd', 'e', ff, dm, 'f'}
	a, d, f := data('a'), plain(dm), data('f')
	for _, raw := range ways {
		for _, second := range []int{1, 2, 3, 4} {
			mustTell(t, b, []int{1, second}, raw, a, d, data('d'), data('e'), d, f)
		}
		mustTell(t, b, []int{1, 5}, raw, a, d, d, f)
		mustTell(t, b, []int{1, 6}, raw, a, d, data('d'), d, f)
		mustTell(t, b, []int{1, 7}, raw, a, d, data('d'), data('e'), d, f)
		mustTell(t, b, []int{1, 8}, raw, a, d, data('d'), data('e'), d, f)
		mustTell(t, b, []int{1, 9}, raw, a, d, data('d'), data('e'), d)
		mustTell(t, b, []int{0, 4, 5, 8, 9}, raw, d, d)
	}
}

// P9.1: a mark without a DM behind it, a DM without a mark, and a DM twice.
func TestMarksAndDMsAlone(t *testing.T) {
	a, b, c, d := data('a'), data('b'), data('c'), plain(dm)
	for _, raw := range ways {
		mustTell(t, []byte{ff, dm, 'a', 'b', 'c'}, []int{3}, raw, d, a)
		mustTell(t, []byte{'a', 'b', 'c', ff, nop}, []int{0}, raw, plain(nop))
		mustTell(t, []byte{'a', ff, dm, 'b'}, nil, raw, a, d, b)
		mustTell(t, []byte{ff, dm}, nil, raw, d)
		mustTell(t, []byte{'a', ff, dm, 'b', ff, dm, 'c'}, nil, raw, a, d, b, d, c)
		mustTell(t, []byte{'a', ff, dm, 'b', ff, dm, 'c'}, []int{0}, raw, d, b, d, c)
		mustTell(t, []byte{'a', ff, dm, ff, dm, 'c'}, []int{0}, raw, d, d, c)
		mustTell(t, []byte{'a', ff, dm, ff, dm, 'c'}, []int{3}, raw, a, d, d, c)
	}
}

// P9.1: marks that are no places, the same one twice, and in any order.
func TestOddMarks(t *testing.T) {
	b := []byte{'a', 'b', ff, dm, 'c', 'd', ff, dm, 'e'}
	n := len(b)
	none := []int{-1, -2, -n, math.MinInt, n, n + 1, 2 * n, 1 << 32, 1<<32 + 1, 1 << 40, math.MaxInt}
	a, d, e := data('a'), plain(dm), data('e')
	for _, raw := range ways {
		mustTell(t, b, none, raw, a, data('b'), d, data('c'), data('d'), d, e)
		for _, m := range none {
			mustTell(t, b, []int{m}, raw, a, data('b'), d, data('c'), data('d'), d, e)
			mustTell(t, b, []int{m, 5, m, 1, m}, raw, a, d, data('c'), d, e)
		}
		mustTell(t, b, []int{1, 1, 1}, raw, a, d, data('c'), data('d'), d, e)
		for _, marks := range [][]int{{1, 5}, {5, 1}, {5, 1, 5, 1}, {1, 5, 1}, {math.MaxInt, 5, -1, 1, 5}} {
			mustTell(t, b, marks, raw, a, d, data('c'), d, e)
		}
		mustTell(t, b, []int{8, 7, 6, 5, 4, 3, 2, 1, 0}, raw, d, d)
	}
}

// P9.1: bytes that end in the middle of a token: it isn't told, and a DM that
// has begun ends nothing yet.
func TestUnfinished(t *testing.T) {
	list := append(others(), sample{[]byte{ff, ff}, data(ff)}, sample{[]byte{ff, dm}, plain(dm)})
	for _, s := range list {
		for n := 1; n < min(len(s.b), 12); n++ {
			b := slices.Concat([]byte("ab"), s.b[:n])
			for _, raw := range ways {
				mustTell(t, b, nil, raw, data('a'), data('b'))
				mustTell(t, b, []int{1}, raw, data('a'))
				mustTell(t, b, []int{2}, raw, data('a'), data('b'))
				mustTell(t, b, []int{len(b) - 1}, raw, data('a'), data('b'))
			}
		}
	}
}

// P9.1: a body that is too long is cut, in a Synch and out of it, and one that
// isn't isn't.
func TestCut(t *testing.T) {
	for _, n := range []int{most - 1, most, most + 1, 4 * most} {
		body := row(n)
		b := slices.Concat([]byte{'a', ff, sb, 9}, body, []byte{ff, se, 'b', ff, dm, 'c'})
		x := iac.Token{Kind: iac.Sub, Option: 9, Body: body[:min(n, most)], Cut: n > most}
		for _, raw := range ways {
			mustTell(t, b, nil, raw, data('a'), x, data('b'), plain(dm), data('c'))
			mustTell(t, b, []int{0}, raw, x, plain(dm), data('c'))
			mustTell(t, b, []int{4 + n/2}, raw, data('a'), x, plain(dm), data('c'))
			mustTell(t, b[:len(b)-6], []int{0}, raw)
		}
	}
}

// P9.1: a byte 0 behind a 13, directly and with other tokens between them.
func TestZeros(t *testing.T) {
	mustTell(t, []byte{cr, 0, 'a'}, nil, false, data(cr), data('a'))
	mustTell(t, []byte{cr, 0, 'a'}, nil, true, data(cr), data(0), data('a'))
	mustTell(t, []byte{cr, 0, 0}, nil, false, data(cr), data(0))
	mustTell(t, []byte{cr, lf, 0}, nil, false, data(cr), data(lf), data(0))
	mustTell(t, []byte{cr, ff, ff, 0}, nil, false, data(cr), data(ff), data(0))
	d := sample{[]byte{ff, dm}, plain(dm)}
	for _, s := range append(others(), d) {
		b := slices.Concat([]byte{cr}, s.b, []byte{0, 'a'})
		mustTell(t, b, nil, false, data(cr), s.token, data('a'))
		mustTell(t, b, nil, true, data(cr), s.token, data(0), data('a'))
		b = slices.Concat([]byte{cr}, s.b, s.b, []byte{0}, s.b, []byte{0, 'a'})
		mustTell(t, b, nil, false, data(cr), s.token, s.token, s.token, data(0), data('a'))
	}
}

// P9.1: a byte 0 behind a 13, with data between them, or one of them, left out
// because of a mark: to layer 8 they never came.
func TestZerosAndSynch(t *testing.T) {
	ret, d, zero := data(cr), plain(dm), data(0)
	mustTell(t, []byte{cr, 'x', ff, dm, 0, 'a'}, []int{1}, false, ret, d, data('a'))
	mustTell(t, []byte{cr, 'x', ff, dm, 0, 'a'}, []int{1}, true, ret, d, zero, data('a'))
	mustTell(t, []byte{cr, ff, ff, ff, dm, 0, 'a'}, []int{2}, false, ret, d, data('a'))
	mustTell(t, []byte{cr, ff, nop, 'x', lf, ff, dm, 0, 0}, []int{2}, false, ret, plain(nop), d, zero)
	// The first 0 is left out because of a mark, and then by layer 8.
	mustTell(t, []byte{cr, 0, ff, dm, 0, 0}, []int{1}, false, ret, d, zero)
	mustTell(t, []byte{cr, 0, 0, ff, dm, 0, 0}, []int{2}, false, ret, d, zero, zero)
	mustTell(t, []byte{cr, ff, dm, 0, 'a'}, []int{0}, false, d, zero, data('a'))
	mustTell(t, []byte{cr, ff, dm, 0, 'a'}, []int{1}, false, ret, d, data('a'))
	mustTell(t, []byte{cr, ff, dm, 0, 'a'}, []int{2}, false, ret, d, data('a'))
	mustTell(t, []byte{'b', cr, cr, ff, dm, 0, 'a'}, []int{2}, false, data('b'), ret, d, data('a'))
	mustTell(t, []byte{cr, 'b', cr, ff, dm, 0, 'a'}, []int{2}, false, ret, data('b'), d, zero, data('a'))
	mustTell(t, []byte{cr, 'x', 0, 0}, []int{1}, false, ret)
}

// step is a byte that comes in, and what is told of it: the token, if its kind
// isn't 0, and Deaf and Idle then.
type step struct {
	c          byte
	mark, raw  bool
	token      iac.Token
	deaf, idle bool
}

// mustSteps holds a zero cleaner against steps, and so the model.
func mustSteps(t *testing.T, steps ...step) {
	t.Helper()
	var k clean.Cleaner
	var r coming
	for i, s := range steps {
		r.b, r.marks, r.raws = append(r.b, s.c), append(r.marks, s.mark), append(r.raws, s.raw)
		x, is := k.Feed(s.c, s.mark, s.raw)
		if is != (s.token.Kind != 0) || !same(x, s.token) {
			t.Fatalf("% x, raw %v: step %d: %+v, %v", r.b, r.raws, i, x, is)
		}
		mustStep(t, &k, r, i, s.deaf, s.idle)
	}
	holdsFeed(t, r)
}

// P9.1: raw turned on or off between a 13 and a 0, directly behind each other
// and with a token between them, of which each byte is raw or not: it is told by
// the bytes with which the data end.
func TestRawTurned(t *testing.T) {
	between := append(others()[:8], sample{})
	for _, s := range between {
		n := len(s.b) + 2
		eachWay(n, func(raws []bool) {
			b := slices.Concat([]byte{cr}, s.b, []byte{0})
			out := !raws[0] && !raws[n-1]
			var k clean.Cleaner
			for i, c := range b {
				if _, is := k.Feed(c, false, raws[i]); i == n-1 && is == out {
					t.Fatalf("% x, raw %v: the 0 stays: %v", b, raws, is)
				}
			}
			holdsFeed(t, coming{b, make([]bool, n), raws})
		})
	}
}

// P9.1: raw turned around a 0 that is left out, and a 0 that came raw, written
// down.
func TestRawTurnedWrittenDown(t *testing.T) {
	ret, rawRet := step{c: cr, token: data(cr), idle: true}, step{c: cr, raw: true, token: data(cr), idle: true}
	zero, rawZero := step{c: 0, token: data(0), idle: true}, step{c: 0, raw: true, token: data(0), idle: true}
	out := step{c: 0, idle: true}
	mustSteps(t, ret, out, zero, zero)
	mustSteps(t, ret, out, rawZero, zero)
	mustSteps(t, ret, rawZero, zero, rawZero)
	mustSteps(t, rawRet, zero, zero)
	mustSteps(t, rawRet, rawZero, zero)
	mustSteps(t, rawRet, ret, out, zero)
	mustSteps(t, ret, rawRet, zero, ret, out)
}

// P9.1: raw turned within a doubled 255, behind a 13 and ahead of a 0: it is
// data that stays, and a 0 behind it does.
func TestRawTurnedWithin255(t *testing.T) {
	eachWay(4, func(raws []bool) {
		mustSteps(t,
			step{c: cr, raw: raws[0], token: data(cr), idle: true},
			step{c: ff, raw: raws[1]},
			step{c: ff, raw: raws[2], token: data(ff), idle: true},
			step{c: 0, raw: raws[3], token: data(0), idle: true})
	})
}

// P9.1: the zero Cleaner, and Feed of each byte first.
func TestZeroCleaner(t *testing.T) {
	for c := range 256 {
		eachWay(2, func(way []bool) {
			s := step{c: byte(c), mark: way[0], raw: way[1], deaf: way[0], idle: c != ff}
			if c != ff && !s.mark {
				s.token = data(byte(c))
			}
			mustSteps(t, s)
		})
	}
	var k clean.Cleaner
	mustStep(t, &k, coming{}, -1, false, true)
}

// P9.1: Deaf and Idle behind each byte of a Synch that begins in a command,
// written down.
func TestDeafAndIdle(t *testing.T) {
	mustSteps(t,
		step{c: 'a', token: data('a'), idle: true},
		step{c: ff},
		step{c: nop, mark: true, token: plain(nop), deaf: true, idle: true},
		step{c: 'x', deaf: true, idle: true},
		step{c: ff, deaf: true},
		step{c: ff, deaf: true, idle: true},
		step{c: ff, deaf: true},
		step{c: sb, deaf: true},
		step{c: 9, deaf: true},
		step{c: ff, deaf: true},
		step{c: dm, token: iac.Token{Kind: iac.Bad, Code: dm, Option: 9}, deaf: true, idle: true},
		step{c: ff, deaf: true},
		step{c: dm, token: plain(dm), idle: true},
		step{c: 'b', token: data('b'), idle: true},
		step{c: ff, mark: true, deaf: true},
		step{c: dm, mark: true, token: plain(dm), idle: true},
		step{c: 'c', mark: true, deaf: true, idle: true})
}

// walk is bytes by chance, most of them those on which the rules hang.
func walk(r *rand.Rand) []byte {
	list := append(others(), sample{[]byte{ff, dm}, plain(dm)}, sample{[]byte{ff, ff}, data(ff)}, sample{[]byte{cr, 0}, data(cr)})
	var b []byte
	for range r.Intn(40) {
		switch k := r.Intn(20); {
		case k < 10:
			b = append(b, few[r.Intn(len(few))])
		case k < 12:
			b = append(b, byte(r.Intn(256)))
		default:
			b = append(b, list[r.Intn(len(list))].b...)
		}
	}
	return b
}

// someMarks is marks by chance, some of them no places.
func someMarks(r *rand.Rand, n int) []int {
	var marks []int
	for range r.Intn(5) {
		marks = append(marks, r.Intn(n+6)-3)
	}
	return marks
}

// P9.1: long rows by chance, with marks by chance.
func TestWalks(t *testing.T) {
	r := rand.New(rand.NewSource(91))
	for range 3000 {
		b := walk(r)
		holds(t, b, someMarks(r, len(b)), r.Intn(2) == 0)
		c := comes(b, someMarks(r, len(b)), false)
		for i := range b {
			c.raws[i] = r.Intn(3) == 0
		}
		holdsFeed(t, c)
	}
}

// P9.1: Feed of a zero cleaner, byte by byte, tells just the tokens of All, and
// Data is the data of these.
func TestCallsAgree(t *testing.T) {
	r := rand.New(rand.NewSource(92))
	for range 3000 {
		b := walk(r)
		marks, raw := someMarks(r, len(b)), r.Intn(2) == 0
		var k clean.Cleaner
		var fed []iac.Token
		for i, c := range b {
			if x, is := k.Feed(c, slices.Contains(marks, i), raw); is {
				fed = append(fed, x)
			}
		}
		all := clean.All(b, marks, raw)
		if !slices.EqualFunc(fed, all, same) {
			t.Fatalf("% .60x, %v, %v: Feed tells %+v, All %+v", b, marks, raw, fed, all)
		}
		if got := clean.Data(b, marks, raw); !bytes.Equal(got, dataOf(all)) {
			t.Fatalf("% .60x, %v, %v: Data is % .60x, All %+v", b, marks, raw, got, all)
		}
	}
}

// P9.1: long rows of one kind.
func TestLongRows(t *testing.T) {
	const n = 1 << 15
	zeros, returns := make([]byte, n), bytes.Repeat([]byte{cr}, n)
	for _, x := range []struct {
		b, raw, not []byte
	}{
		{zeros, zeros, zeros},
		{returns, returns, returns},
		{bytes.Repeat([]byte{cr, 0}, n), bytes.Repeat([]byte{cr, 0}, n), returns},
		{bytes.Repeat([]byte{ff, ff}, n), bytes.Repeat([]byte{ff}, n), bytes.Repeat([]byte{ff}, n)},
		{bytes.Repeat([]byte{cr, ff, nop, 0}, n), bytes.Repeat([]byte{cr, 0}, n), returns},
		{bytes.Repeat([]byte{ff, dm}, n), nil, nil},
		{slices.Concat([]byte{ff, sb, 1}, zeros), nil, nil},
	} {
		if got := clean.Data(x.b, nil, true); !bytes.Equal(got, x.raw) {
			t.Fatalf("Data of % .20x and more, raw: %d bytes, not %d", x.b, len(got), len(x.raw))
		}
		if got := clean.Data(x.b, nil, false); !bytes.Equal(got, x.not) {
			t.Fatalf("Data of % .20x and more, not raw: %d bytes, not %d", x.b, len(got), len(x.not))
		}
	}
	every := make([]int, n)
	for i := range every {
		every[i] = n - 1 - i
	}
	if got := clean.All(returns, every, false); len(got) != 0 {
		t.Fatalf("with marks at all places %d tokens stay", len(got))
	}
}

// P9.1: two cleaners, fed in turn, don't know of each other, nor of the calls of
// all bytes; a copy of one goes its own way.
func TestCleanersApart(t *testing.T) {
	r := rand.New(rand.NewSource(93))
	for range 300 {
		var list [3]clean.Cleaner
		var told, want [3][]iac.Token
		var rows [3]coming
		for i := range rows {
			b := walk(r)
			rows[i] = comes(b, someMarks(r, len(b)), i == 0)
			stay, _, _ := rows[i].model()
			want[i] = bare(stay)
		}
		for at := 0; at < len(rows[0].b) || at < len(rows[1].b) || at < len(rows[2].b); at++ {
			for i, c := range rows {
				if at >= len(c.b) {
					continue
				}
				if x, is := list[i].Feed(c.b[at], c.marks[at], c.raws[at]); is {
					told[i] = append(told[i], x)
				}
			}
			clean.All([]byte{ff, sb, 1, 2, cr}, []int{0}, false)
			clean.Data([]byte{cr, ff, dm, cr}, []int{1}, false)
			aside := list[0]
			aside.Feed(ff, true, false)
			aside.Feed(cr, true, false)
		}
		for i := range told {
			if !slices.EqualFunc(told[i], want[i], same) {
				t.Fatalf("cleaner %d of % .60x: %+v, not %+v", i, rows[i].b, told[i], want[i])
			}
		}
	}
}

// P9.2: without marks, raw, the tokens are layer 5's.
func TestWithoutMarksRaw(t *testing.T) {
	must := func(b []byte) {
		want, _ := iac.All(b)
		if got := clean.All(b, nil, true); !slices.EqualFunc(got, want, iac.Same) {
			t.Fatalf("All(% .60x): %+v, layer 5's are %+v", b, got, want)
		}
		if got := clean.Data(b, []int{-1, len(b)}, true); !bytes.Equal(got, dataOf(want)) {
			t.Fatalf("Data(% .60x): % .60x, layer 5's tokens are %+v", b, got, want)
		}
	}
	for c := range 256 {
		for d := range 256 {
			must([]byte{byte(c), byte(d)})
		}
	}
	for n := range 6 {
		eachRow(few, n, must)
	}
	r := rand.New(rand.NewSource(94))
	for range 3000 {
		must(walk(r))
	}
}

// sent is a part of what is sent: data, raw or not, or another token.
type sent struct {
	data  []byte
	raw   bool
	token iac.Token
}

// wire is what goes out of parts, by layers 6 and 8, each byte raw as its part
// is, and the data and the other tokens that it should come in as.
func wire(t *testing.T, parts []sent) (r coming, text []byte, tokens []iac.Token) {
	t.Helper()
	for _, p := range parts {
		b := emit.Data(nvt.Encode(p.data, p.raw))
		if p.token.Kind != 0 {
			var err error
			if b, err = emit.Token(p.token); err != nil {
				t.Fatal(p.token, err)
			}
			tokens = append(tokens, p.token)
		}
		text = append(text, p.data...)
		r.b = append(r.b, b...)
		r.raws = append(r.raws, slices.Repeat([]bool{p.raw}, len(b))...)
	}
	r.marks = make([]bool, len(r.b))
	return r, text, tokens
}

// mustArrive holds that parts that are sent come in as they were: the data, one
// behind the other, and the other tokens. All and Data are asked, too, if all
// parts are raw, or none is.
func mustArrive(t *testing.T, parts ...sent) {
	t.Helper()
	r, text, tokens := wire(t, parts)
	var k clean.Cleaner
	var got []iac.Token
	for i, c := range r.b {
		if x, is := k.Feed(c, false, r.raws[i]); is {
			got = append(got, x)
		}
	}
	isData := func(x iac.Token) bool { return x.Kind == iac.Data }
	if rest := slices.DeleteFunc(slices.Clone(got), isData); !bytes.Equal(dataOf(got), text) || !slices.EqualFunc(rest, tokens, same) || !k.Idle() || k.Deaf() {
		t.Fatalf("%+v went out as % .60x, raw %v, and came in as %+v", parts, r.b, r.raws, got)
	}
	for _, raw := range ways {
		if slices.Contains(r.raws, !raw) {
			continue
		}
		if all := clean.All(r.b, nil, raw); !slices.EqualFunc(all, got, same) || !bytes.Equal(clean.Data(r.b, nil, raw), text) {
			t.Fatalf("%+v went out as % .60x, raw %v, and All is %+v", parts, r.b, raw, all)
		}
	}
}

// between is tokens that are sent between data: layer 6 tells them.
func between() []iac.Token {
	return []iac.Token{
		plain(dm), plain(codes.AYT), {Kind: iac.Verb, Code: do, Option: cr}, {Kind: iac.Verb, Code: will, Option: ff},
		{Kind: iac.Sub, Option: 0}, {Kind: iac.Sub, Option: 24, Body: []byte{cr, 0, ff, se, lf}}, {Kind: iac.Sub, Option: ff, Body: row(most)},
	}
}

// P9.2: what is sent by layers 6 and 8 comes in as it was, at once.
func TestSentAtOnce(t *testing.T) {
	for _, raw := range ways {
		for c := range 256 {
			for d := range 256 {
				mustArrive(t, sent{data: []byte{byte(c), byte(d)}, raw: raw})
			}
		}
		for n := range 6 {
			eachRow(few, n, func(b []byte) { mustArrive(t, sent{data: b, raw: raw}) })
		}
	}
}

// P9.2: the same in two parts, each one raw or not, parted at each place, with
// each other token between them, raw or not, or none.
func TestSentInParts(t *testing.T) {
	for n := range 4 {
		eachRow([]byte{0, lf, cr, 'A', dm, ff}, n, func(b []byte) {
			for at := range n + 1 {
				eachWay(3, func(raws []bool) {
					one, two := sent{data: b[:at], raw: raws[0]}, sent{data: b[at:], raw: raws[1]}
					mustArrive(t, one, two)
					for _, x := range between() {
						mustArrive(t, one, sent{token: x, raw: raws[2]}, two)
					}
				})
			}
		})
	}
}

// P9.2: the same in many parts by chance, each one raw or not by chance.
func TestSentByChance(t *testing.T) {
	r := rand.New(rand.NewSource(95))
	for i := range 3000 {
		var parts []sent
		for range r.Intn(12) {
			p := sent{raw: i%3 == 0}
			if i%3 == 2 {
				p.raw = r.Intn(2) == 0
			}
			if r.Intn(3) == 0 {
				p.token = between()[r.Intn(len(between()))]
			} else {
				p.data = walk(r)
			}
			parts = append(parts, p)
		}
		mustArrive(t, parts...)
	}
}

// No two answers share memory with each other, or with what was given.
func TestAnswersApart(t *testing.T) {
	b := []byte{ff, sb, 1, 2, 3, ff, se, 'x', ff, sb, 1, 2, 3, ff, se, cr, 0, 'y', ff, dm, 'z'}
	for _, marks := range [][]int{nil, {7}, {17, 7}} {
		for _, raw := range ways {
			stay, _, _ := comes(b, marks, raw).model()
			want := bare(stay)
			theirs, all, places, more := given(b, marks)
			lists := [][]iac.Token{clean.All(theirs, places, raw), clean.All(theirs, places, raw)}
			rows := [][]byte{clean.Data(theirs, places, raw), clean.Data(theirs, places, raw)}
			scribble(all)
			clear(more)
			for i := range lists {
				if !slices.EqualFunc(lists[i], want, same) || !bytes.Equal(rows[i], dataOf(want)) {
					t.Fatalf("marks %v, raw %v: answer %d is changed: %+v, % x", marks, raw, i, lists[i], rows[i])
				}
				for j, x := range lists[i] {
					if !same(x, want[j]) {
						t.Fatalf("marks %v, raw %v: bodies share memory: %+v", marks, raw, lists[i])
					}
					scribble(x.Body)
				}
				clear(lists[i][:cap(lists[i])])
				scribble(rows[i])
			}
		}
	}
}

// What Feed told stays as it was, whatever comes then; what is written over it
// changes nothing that comes.
func TestToldApart(t *testing.T) {
	var k clean.Cleaner
	feed := func(b []byte) (last iac.Token) {
		for _, c := range b {
			last, _ = k.Feed(c, false, false)
		}
		return last
	}
	for n := range 5 {
		first := feed(slices.Concat([]byte{ff, sb, 7}, row(n), []byte{ff, se}))
		second := feed(slices.Concat([]byte{ff, sb, 7}, bytes.Repeat([]byte("a"), n), []byte{ff, se}))
		feed([]byte{ff, sb, 8})
		feed(bytes.Repeat([]byte("b"), n))
		if !bytes.Equal(first.Body, row(n)) || !bytes.Equal(second.Body, bytes.Repeat([]byte("a"), n)) {
			t.Fatalf("% x, % x", first.Body, second.Body)
		}
		scribble(first.Body)
		scribble(second.Body)
		if third := feed([]byte{ff, se}); !bytes.Equal(third.Body, bytes.Repeat([]byte("b"), n)) {
			t.Fatalf("% x", third.Body)
		}
	}
}

// No bytes and marks make a call panic, or are told otherwise than they should
// be.
func FuzzHolds(f *testing.F) {
	f.Add([]byte{'a', 'b', 'c', ff, dm, 'd'}, []byte{0, 1}, 1)
	f.Add([]byte{cr, 'x', ff, dm, 0, 0}, []byte{2, 1, 0}, -1)
	f.Add([]byte{cr, ff, sb, dm, cr, ff, dm, 0}, []byte{}, 1<<40)
	f.Fuzz(func(t *testing.T, b, ways []byte, mark int) {
		r := comes(b, []int{mark}, false)
		marks := []int{mark}
		for i := range min(len(b), len(ways)) {
			r.raws[i] = ways[i]&2 != 0
			if ways[i]&1 != 0 {
				r.marks[i] = true
				marks = append(marks, i)
			}
		}
		holdsFeed(t, r)
		holds(t, b, marks, true)
		holds(t, b, marks, false)
		mustArrive(t, sent{data: b}, sent{data: b, raw: true})
	})
}
