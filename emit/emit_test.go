package emit_test

import (
	"bytes"
	"errors"
	"math"
	"math/rand"
	"slices"
	"testing"

	"truchman/api"
	"truchman/emit"
	"truchman/iac"
)

// What the chapter's bytes are, told here by their numbers.
const (
	se   = 240
	nop  = 241
	ga   = 249
	sb   = 250
	will = 251
	dont = 254
	ff   = 255 // IAC
	most = 256 // bytes of a body
)

// outside is numbers that are no byte's, near ones and far ones: among them
// those whose last bytes are a byte's, a verb's or a plain command's.
func outside() []int {
	return []int{-1, 256, -2, 257, -255, -256, -257, 256 + nop, 256 + 253, nop - 256, 253 - 256, 1<<16 + 1, 1<<16 + nop,
		1 << 31, -1 << 31, 1<<31 - 1, 1 << 32, 1<<32 + nop, 1<<32 + 253, -1 << 32, math.MaxInt, math.MinInt, math.MinInt + 253}
}

// inRange tells whether a number is a byte's.
func inRange(n int) bool { return 0 <= n && n <= 255 }

// twice is bytes with each byte 255 doubled.
func twice(b []byte) []byte { return bytes.ReplaceAll(b, []byte{ff}, []byte{ff, ff}) }

// verbOf is what should be told of a verb.
func verbOf(code, option int) ([]byte, error) {
	if code < will || code > dont {
		return nil, api.ErrKind
	}
	if !inRange(option) {
		return nil, api.ErrRange
	}
	return []byte{ff, byte(code), byte(option)}, nil
}

// plainOf is what should be told of a plain command.
func plainOf(code int) ([]byte, error) {
	if code < nop || code > ga {
		return nil, api.ErrKind
	}
	return []byte{ff, byte(code)}, nil
}

// subOf is what should be told of a subnegotiation, whole or cut.
func subOf(option int, body []byte, cut bool) ([]byte, error) {
	if !inRange(option) {
		return nil, api.ErrRange
	}
	if len(body) > most || cut {
		return nil, api.ErrLong
	}
	return slices.Concat([]byte{ff, sb, byte(option)}, twice(body), []byte{ff, se}), nil
}

// tokenOf is what should be told of a token.
func tokenOf(x iac.Token) ([]byte, error) {
	switch x.Kind {
	case 1:
		if !inRange(x.Code) {
			return nil, api.ErrRange
		}
		return twice([]byte{byte(x.Code)}), nil
	case 2:
		return plainOf(x.Code)
	case 3:
		return verbOf(x.Code, x.Option)
	case 4:
		return subOf(x.Option, x.Body, x.Cut)
	}
	return nil, api.ErrKind
}

// allOf is what should be told of tokens.
func allOf(list []iac.Token) ([]byte, error) {
	var all []byte
	for _, x := range list {
		b, err := tokenOf(x)
		if err != nil {
			return nil, err
		}
		all = append(all, b...)
	}
	return all, nil
}

// must holds what is told against what should be: beside an error no bytes.
func must(t *testing.T, got []byte, err error, want []byte, wantErr error) {
	t.Helper()
	if wantErr != nil {
		if !errors.Is(err, wantErr) || len(got) != 0 {
			t.Fatalf("% .60x, %v, not nothing, %v", got, err, wantErr)
		}
		return
	}
	if err != nil || !bytes.Equal(got, want) {
		t.Fatalf("% .60x, %v, not % .60x", got, err, want)
	}
}

// given is bytes, and the same with room behind them that isn't theirs.
func given(b []byte) (theirs, all []byte) {
	all = slices.Concat(b, []byte("####"))
	return all[:len(b)], all
}

// mustStand holds what given made against what it was made of.
func mustStand(t *testing.T, all, b []byte) {
	t.Helper()
	if string(all) != string(b)+"####" {
		t.Fatalf("what was given is changed: % .60x", all)
	}
}

// scribble writes over bytes, and over the room behind them.
func scribble(b []byte) {
	b = b[:cap(b)]
	for i := range b {
		b[i] = '?'
	}
}

// mustRead reads bytes by layer 5: they are these tokens, and end with them.
func mustRead(t *testing.T, b []byte, want ...iac.Token) {
	t.Helper()
	got, is := iac.All(b)
	if !is || !slices.EqualFunc(got, want, iac.Same) {
		t.Fatalf("% .60x is read as %+v, %v, not as %+v", b, got, is, want)
	}
}

// datas is the tokens of data.
func datas(b []byte) (list []iac.Token) {
	for _, c := range b {
		list = append(list, iac.Token{Kind: iac.Data, Code: int(c)})
	}
	return list
}

// kept is what a token's kind has of it.
func kept(x iac.Token) iac.Token {
	switch x.Kind {
	case iac.Data, iac.Plain:
		return iac.Token{Kind: x.Kind, Code: x.Code}
	case iac.Verb:
		return iac.Token{Kind: x.Kind, Code: x.Code, Option: x.Option}
	}
	return iac.Token{Kind: x.Kind, Option: x.Option, Body: x.Body}
}

// holdsData holds Data of bytes against them, and what is read of it.
func holdsData(t *testing.T, b []byte) {
	t.Helper()
	theirs, all := given(b)
	got := emit.Data(theirs)
	must(t, got, nil, twice(b), nil)
	mustRead(t, got, datas(b)...)
	scribble(got)
	mustStand(t, all, b)
}

// holdsSub holds Sub against what should be told, and what is read of it.
func holdsSub(t *testing.T, option int, body []byte) {
	t.Helper()
	theirs, all := given(body)
	got, err := emit.Sub(option, theirs)
	want, wantErr := subOf(option, body, false)
	must(t, got, err, want, wantErr)
	if err == nil {
		mustRead(t, got, iac.Token{Kind: iac.Sub, Option: option, Body: body})
	}
	scribble(got)
	mustStand(t, all, body)
}

// holdsToken holds Token, and All of that one, against what should be told, and
// what is read of it.
func holdsToken(t *testing.T, x iac.Token) {
	t.Helper()
	body := x.Body
	theirs, all := given(body)
	x.Body = theirs
	got, err := emit.Token(x)
	want, wantErr := tokenOf(x)
	must(t, got, err, want, wantErr)
	if err == nil {
		mustRead(t, got, kept(x))
	}
	scribble(got)
	mustStand(t, all, body)
	got, err = emit.All([]iac.Token{x})
	must(t, got, err, want, wantErr)
	scribble(got)
	mustStand(t, all, body)
}

// holdsAll holds All against what should be told, what is read of it, and that
// the list stands as it stood.
func holdsAll(t *testing.T, list []iac.Token) {
	t.Helper()
	theirs, behind := slices.Clone(list), iac.Token{Kind: -7, Code: 1, Body: []byte{'#'}}
	alls := make([][]byte, len(list))
	for i := range theirs {
		theirs[i].Body, alls[i] = given(list[i].Body)
	}
	room := append(slices.Clone(theirs), behind)
	got, err := emit.All(room[:len(list)])
	want, wantErr := allOf(list)
	must(t, got, err, want, wantErr)
	if err == nil {
		var tokens []iac.Token
		for _, x := range list {
			tokens = append(tokens, kept(x))
		}
		mustRead(t, got, tokens...)
	}
	scribble(got)
	if !slices.EqualFunc(room, append(theirs, behind), iac.Same) {
		t.Fatalf("All changed what it was given: %+v", room)
	}
	for i := range alls {
		mustStand(t, alls[i], list[i].Body)
	}
}

// row is so many bytes, none of them like its neighbours, none of them 255.
func row(n int) []byte {
	b := make([]byte, n)
	for i := range b {
		b[i] = byte(i * 7 % 251)
	}
	return b
}

// nines is so many bytes 255.
func nines(n int) []byte { return bytes.Repeat([]byte{ff}, n) }

// samples is tokens of each kind that has bytes, of each way in which it has
// them.
func samples() []iac.Token {
	return []iac.Token{
		{Kind: iac.Data, Code: 'a'},
		{Kind: iac.Data},
		{Kind: iac.Data, Code: 13},
		{Kind: iac.Data, Code: se},
		{Kind: iac.Data, Code: sb},
		{Kind: iac.Data, Code: will},
		{Kind: iac.Data, Code: ff},
		{Kind: iac.Plain, Code: nop},
		{Kind: iac.Plain, Code: 242},
		{Kind: iac.Plain, Code: ga},
		{Kind: iac.Verb, Code: will, Option: 0},
		{Kind: iac.Verb, Code: 253, Option: 1},
		{Kind: iac.Verb, Code: 252, Option: sb},
		{Kind: iac.Verb, Code: dont, Option: ff},
		{Kind: iac.Sub, Option: 24},
		{Kind: iac.Sub, Option: 0, Body: []byte{0}},
		{Kind: iac.Sub, Option: se, Body: []byte{se, sb, se}},
		{Kind: iac.Sub, Option: ff, Body: []byte{1, 2, ff}},
		{Kind: iac.Sub, Option: 31, Body: row(most)},
		{Kind: iac.Sub, Option: 34, Body: nines(most)},
	}
}

// wrongs is tokens that have no bytes, of each way in which they haven't, no
// error the same as the one ahead of it.
func wrongs() []iac.Token {
	return []iac.Token{
		{Kind: iac.Data, Code: -1},
		{Kind: iac.Plain, Code: se},
		{Kind: iac.Sub, Option: 24, Body: row(most + 1)},
		{Kind: iac.Bad, Code: nop, Option: 5},
		{Kind: iac.Verb, Code: will, Option: 256},
		{Kind: iac.Verb, Code: sb, Option: 1},
		{Kind: iac.Sub, Option: -1, Body: []byte{1}},
		{Kind: iac.Sub, Option: 1, Cut: true},
		{},
		{Kind: iac.Data, Code: 256},
		{Kind: 6, Code: 1, Option: 1},
	}
}

// The chapter's example.
func TestExample(t *testing.T) {
	got, err := emit.Verb(253, 1)
	must(t, got, err, []byte{255, 253, 1}, nil)
}

// P6.1: the bytes of each kind, written down.
func TestWrittenDown(t *testing.T) {
	must(t, emit.Data([]byte{'a', ff, 0, ff, ff, se}), nil, []byte{'a', ff, ff, 0, ff, ff, ff, ff, se}, nil)
	got, err := emit.Plain(246)
	must(t, got, err, []byte{255, 246}, nil)
	got, err = emit.Sub(24, []byte{0, 'v', ff, 't'})
	must(t, got, err, []byte{255, 250, 24, 0, 'v', 255, 255, 't', 255, 240}, nil)
	got, err = emit.Sub(255, []byte{255, 240})
	must(t, got, err, []byte{255, 250, 255, 255, 255, 240, 255, 240}, nil)
	got, err = emit.Sub(31, nil)
	must(t, got, err, []byte{255, 250, 31, 255, 240}, nil)
	got, err = emit.All([]iac.Token{
		{Kind: iac.Data, Code: 'x'}, {Kind: iac.Data, Code: 255}, {Kind: iac.Plain, Code: 242},
		{Kind: iac.Verb, Code: 251, Option: 255}, {Kind: iac.Sub, Option: 6, Body: []byte{255}}, {Kind: iac.Data},
	})
	must(t, got, err, []byte{'x', 255, 255, 255, 242, 255, 251, 255, 255, 250, 6, 255, 255, 255, 240, 0}, nil)
}

// P6.1, P6.2: Data of no bytes.
func TestDataOfNothing(t *testing.T) {
	for _, b := range [][]byte{nil, {}, []byte("abc")[:0]} {
		holdsData(t, b)
	}
}

// P6.1, P6.2: Data of each byte by itself, and beside others.
func TestDataOfEachByte(t *testing.T) {
	for c := range 256 {
		b := byte(c)
		for _, row := range [][]byte{{b}, {b, b}, {b, 'a'}, {'a', b}, {ff, b}, {b, ff}, {ff, b, ff}, {b, sb, ff, se}} {
			holdsData(t, row)
		}
	}
}

// P6.1, P6.2: Data with bytes 255 at each place, and at each two of them.
func TestDataOfBytes255(t *testing.T) {
	for n := range 20 {
		for i := range n {
			for j := range n {
				b := row(n)
				b[i], b[j] = ff, ff
				holdsData(t, b)
			}
		}
	}
	b := row(700)
	for i := range b {
		was := b[i]
		b[i] = ff
		holdsData(t, b)
		b[i] = was
	}
}

// P6.1, P6.2: Data of nothing but bytes 255.
func TestDataOfNothingBut255(t *testing.T) {
	for n := range 600 {
		holdsData(t, nines(n))
	}
}

// P6.1, P6.2: Data of long rows: nothing bounds them.
func TestDataOfLongRows(t *testing.T) {
	for _, n := range []int{most, most + 1, api.MaxOut, api.MaxOut + 1, api.MaxRing + 1, 1 << 16, 1<<16 + 1, 1 << 20} {
		holdsData(t, row(n))
		holdsData(t, nines(n))
	}
	r := rand.New(rand.NewSource(61))
	for range 200 {
		holdsData(t, someBytes(r, r.Intn(5000)))
	}
}

// someBytes is so many bytes by chance, many of them 255.
func someBytes(r *rand.Rand, n int) []byte {
	b := make([]byte, n)
	for i := range b {
		b[i] = byte(r.Intn(256))
		if r.Intn(3) == 0 {
			b[i] = ff
		}
	}
	return b
}

// P6.1, P6.2: Plain of every number near a byte's, and of far ones.
func TestPlain(t *testing.T) {
	numbers := outside()
	for n := -300; n <= 600; n++ {
		numbers = append(numbers, n)
	}
	told := 0
	for _, n := range numbers {
		got, err := emit.Plain(n)
		want, wantErr := plainOf(n)
		must(t, got, err, want, wantErr)
		if err == nil {
			told++
			mustRead(t, got, iac.Token{Kind: iac.Plain, Code: n})
		}
	}
	if told != 9 {
		t.Errorf("%d plain commands", told)
	}
	for _, n := range []int{se, sb, will, 252, 253, dont, ff} {
		got, err := emit.Plain(n)
		must(t, got, err, nil, api.ErrKind)
	}
}

// P6.1, P6.2: Verb of every verb, and of what is none, with every option, and
// with numbers that are none: the kind is told first.
func TestVerb(t *testing.T) {
	numbers := outside()
	for n := range 256 {
		numbers = append(numbers, n)
	}
	for _, code := range numbers {
		for _, option := range numbers {
			got, err := emit.Verb(code, option)
			want, wantErr := verbOf(code, option)
			must(t, got, err, want, wantErr)
			if err == nil {
				mustRead(t, got, iac.Token{Kind: iac.Verb, Code: code, Option: option})
			}
		}
	}
	got, err := emit.Verb(se, -1)
	must(t, got, err, nil, api.ErrKind)
	got, err = emit.Verb(will, -1)
	must(t, got, err, nil, api.ErrRange)
}

// P6.1, P6.2: Sub of every option, and of numbers that are none, without a body
// and with one.
func TestSubOfEveryOption(t *testing.T) {
	options := outside()
	for n := range 256 {
		options = append(options, n)
	}
	for _, option := range options {
		for _, body := range [][]byte{nil, {}, []byte("abc")[:0], {byte(option)}, {1, 2, 3}, {ff}, row(most), nines(most)} {
			holdsSub(t, option, body)
		}
	}
}

// P6.1, P6.2: every byte in a body, by itself and beside others.
func TestSubOfEveryByte(t *testing.T) {
	for c := range 256 {
		b := byte(c)
		for _, body := range [][]byte{{b}, {b, b}, {b, 7}, {7, b}, {ff, b}, {b, ff}, {b, se}, {ff, b, ff}, {b, ff, se, b}} {
			holdsSub(t, 24, body)
		}
	}
}

// P6.1, P6.2: bytes 255 at each place of a body, and of nothing else.
func TestSubOfBytes255(t *testing.T) {
	for _, n := range []int{1, 2, 3, 9, most - 1, most} {
		for i := range n {
			body := row(n)
			body[i] = ff
			holdsSub(t, 1, body)
			body[n-1-i] = ff
			holdsSub(t, 1, body)
		}
	}
	for n := range most + 1 {
		holdsSub(t, ff, nines(n))
	}
}

// P6.1: a body of MaxSub bytes, of one less, of one more and of many more: a
// byte 255 counts as one.
func TestSubOfManyBytes(t *testing.T) {
	if most != api.MaxSub {
		t.Fatal(api.MaxSub)
	}
	for _, n := range []int{most/2 - 1, most / 2, most/2 + 1, most - 2, most - 1, most, most + 1, most + 2, 2 * most, 2*most + 1, 1 << 16, 1<<16 + 1} {
		for _, body := range [][]byte{row(n), nines(n)} {
			holdsSub(t, 9, body)
			got, err := emit.Sub(9, body)
			if n <= most {
				must(t, got, err, slices.Concat([]byte{255, 250, 9}, twice(body), []byte{255, 240}), nil)
			} else {
				must(t, got, err, nil, api.ErrLong)
			}
		}
	}
}

// P6.1: where the option and the body are wrong, the option is told.
func TestSubWrongTwice(t *testing.T) {
	for _, option := range outside() {
		for _, body := range [][]byte{row(most + 1), nines(most + 1), row(1 << 16)} {
			got, err := emit.Sub(option, body)
			must(t, got, err, nil, api.ErrRange)
			got, err = emit.Token(iac.Token{Kind: iac.Sub, Option: option, Body: body})
			must(t, got, err, nil, api.ErrRange)
		}
	}
}

// P6.1, P6.2: Token of each kind.
func TestTokenOfEachKind(t *testing.T) {
	for _, x := range samples() {
		holdsToken(t, x)
		if got, err := emit.Token(x); err != nil {
			t.Errorf("%+v: % x, %v", x, got, err)
		}
	}
	for _, x := range wrongs() {
		holdsToken(t, x)
		if got, err := emit.Token(x); err == nil {
			t.Errorf("%+v: % x", x, got)
		}
	}
}

// P6.1: Token of Data with every byte, and with numbers that are none.
func TestTokenOfData(t *testing.T) {
	for n := -300; n <= 600; n++ {
		holdsToken(t, iac.Token{Kind: iac.Data, Code: n})
	}
	for _, n := range outside() {
		got, err := emit.Token(iac.Token{Kind: iac.Data, Code: n})
		must(t, got, err, nil, api.ErrRange)
	}
	got, err := emit.Token(iac.Token{Kind: iac.Data})
	must(t, got, err, []byte{0}, nil)
	got, err = emit.Token(iac.Token{Kind: iac.Data, Code: 254})
	must(t, got, err, []byte{254}, nil)
	got, err = emit.Token(iac.Token{Kind: iac.Data, Code: 255})
	must(t, got, err, []byte{255, 255}, nil)
}

// P6.1: Token of Plain and Verb with every number, and of Verb and Sub with
// every option: as Plain, Verb and Sub.
func TestTokenOfEveryNumber(t *testing.T) {
	numbers := outside()
	for n := -20; n <= 280; n++ {
		numbers = append(numbers, n)
	}
	for _, n := range numbers {
		holdsToken(t, iac.Token{Kind: iac.Plain, Code: n})
		holdsToken(t, iac.Token{Kind: iac.Sub, Option: n})
		holdsToken(t, iac.Token{Kind: iac.Sub, Option: n, Body: row(5)})
		for code := se; code <= ff; code++ {
			holdsToken(t, iac.Token{Kind: iac.Verb, Code: code, Option: n})
		}
		holdsToken(t, iac.Token{Kind: iac.Verb, Code: n, Option: 1})
		holdsToken(t, iac.Token{Kind: iac.Verb, Code: n, Option: 256})
	}
}

// P6.1: Token of Bad and of numbers that are no kind, whatever else they have.
func TestTokenOfNoKind(t *testing.T) {
	kinds := append(outside(), iac.Bad, 0, 6, 7, 255, 256+iac.Data, 1<<32+iac.Plain, -iac.Verb)
	for _, kind := range kinds {
		for _, x := range []iac.Token{
			{}, {Code: 'a'}, {Code: nop, Option: 1}, {Code: 253, Option: 1}, {Option: 24, Body: []byte{1}},
			{Code: -1, Option: 256, Body: row(most + 1), Cut: true}, {Cut: true}, {Code: 256, Option: -1},
		} {
			x.Kind = kind
			got, err := emit.Token(x)
			must(t, got, err, nil, api.ErrKind)
		}
	}
}

// P6.1: Token of a Sub that is Cut, of a short body, of one of MaxSub bytes and
// of a long one; of an option that is wrong as well, that is told.
func TestTokenOfCut(t *testing.T) {
	for _, n := range []int{0, 1, 2, most - 1, most, most + 1, 2 * most, 1 << 16} {
		for _, body := range [][]byte{row(n), nines(n)} {
			for _, option := range []int{0, 24, 255} {
				got, err := emit.Token(iac.Token{Kind: iac.Sub, Option: option, Body: body, Cut: true})
				must(t, got, err, nil, api.ErrLong)
			}
			for _, option := range outside() {
				got, err := emit.Token(iac.Token{Kind: iac.Sub, Option: option, Body: body, Cut: true})
				must(t, got, err, nil, api.ErrRange)
			}
			holdsToken(t, iac.Token{Kind: iac.Sub, Option: 24, Body: body})
		}
	}
}

// P6.1: what a kind doesn't have isn't looked at.
func TestWhatAKindHasNot(t *testing.T) {
	for _, x := range append(samples(), wrongs()...) {
		want, wantErr := tokenOf(x)
		for _, n := range append(outside(), 0, 'a', nop, will, ff) {
			for _, body := range [][]byte{nil, {1, ff}, row(most + 1)} {
				for _, cut := range []bool{false, true} {
					y := x
					switch x.Kind {
					case iac.Data, iac.Plain:
						y.Option, y.Body, y.Cut = n, body, cut
					case iac.Verb:
						y.Body, y.Cut = body, cut
					case iac.Sub:
						y.Code = n
					default:
						y.Code, y.Option, y.Body, y.Cut = n, n, body, cut
					}
					got, err := emit.Token(y)
					must(t, got, err, want, wantErr)
				}
			}
		}
	}
}

// P6.1: All of no tokens.
func TestAllOfNothing(t *testing.T) {
	for _, list := range [][]iac.Token{nil, {}, samples()[:0], wrongs()[:0]} {
		holdsAll(t, list)
		got, err := emit.All(list)
		must(t, got, err, nil, nil)
	}
}

// P6.1, P6.2: each kind behind each other one, and behind itself, and a third
// one behind them.
func TestKindsBehindEachOther(t *testing.T) {
	for _, a := range samples() {
		for _, b := range samples() {
			holdsAll(t, []iac.Token{a, b})
			for _, c := range samples() {
				holdsAll(t, []iac.Token{a, b, c})
			}
		}
	}
}

// P6.2: what is told of tokens one by one, laid together, is read as them.
func TestLaidTogether(t *testing.T) {
	var b []byte
	list := slices.Repeat(samples(), 3)
	for _, x := range list {
		got, err := emit.Token(x)
		must(t, got, err, got, nil)
		b = append(b, got...)
	}
	mustRead(t, b, list...)
	b = append(b, emit.Data([]byte{1, ff, sb})...)
	got, err := emit.Sub(ff, []byte{ff, se})
	must(t, got, err, got, nil)
	b = append(b, got...)
	b = append(b, emit.Data([]byte{se, ff})...)
	list = append(append(list, datas([]byte{1, ff, sb})...), iac.Token{Kind: iac.Sub, Option: ff, Body: []byte{ff, se}})
	mustRead(t, b, append(list, datas([]byte{se, ff})...)...)
}

// P6.1, P6.2: All of many of each kind.
func TestAllOfMany(t *testing.T) {
	var all []iac.Token
	for _, x := range samples() {
		for _, n := range []int{2, 3, 50, 1000} {
			holdsAll(t, slices.Repeat([]iac.Token{x}, n))
		}
		all = append(all, slices.Repeat([]iac.Token{x}, 30)...)
	}
	holdsAll(t, all)
	holdsAll(t, slices.Repeat(samples(), 40))
}

// at is a list of good tokens with others at some places.
func at(n int, others map[int]iac.Token) []iac.Token {
	list := make([]iac.Token, n)
	for i := range list {
		list[i] = samples()[i*3%len(samples())]
		if x, is := others[i]; is {
			list[i] = x
		}
	}
	return list
}

// P6.1: one token that is wrong, at each place.
func TestAllWithOneWrong(t *testing.T) {
	for _, x := range wrongs() {
		_, want := tokenOf(x)
		for n := 1; n <= 9; n++ {
			for i := range n {
				list := at(n, map[int]iac.Token{i: x})
				holdsAll(t, list)
				got, err := emit.All(list)
				must(t, got, err, nil, want)
			}
		}
	}
}

// P6.1: two tokens that are wrong, at each two places: the first one is told.
func TestAllWithTwoWrong(t *testing.T) {
	const n = 5
	for _, x := range wrongs() {
		for _, y := range wrongs() {
			_, want := tokenOf(x)
			for i := range n {
				for j := i + 1; j < n; j++ {
					list := at(n, map[int]iac.Token{i: x, j: y})
					holdsAll(t, list)
					got, err := emit.All(list)
					must(t, got, err, nil, want)
				}
			}
		}
	}
}

// P6.1: all tokens are wrong, whichever is the first one.
func TestAllWithAllWrong(t *testing.T) {
	list := wrongs()
	for range len(list) {
		_, want := tokenOf(list[0])
		for n := 1; n <= len(list); n++ {
			holdsAll(t, list[:n])
			got, err := emit.All(list[:n])
			must(t, got, err, nil, want)
		}
		list = append(list[1:], list[0])
	}
}

// someToken is a token by chance: one that has bytes, but for few.
func someToken(r *rand.Rand, few int) iac.Token {
	if r.Intn(1000) < few {
		return wrongs()[r.Intn(len(wrongs()))]
	}
	switch r.Intn(6) {
	case 0:
		return iac.Token{Kind: iac.Plain, Code: nop + r.Intn(ga-nop+1)}
	case 1:
		return iac.Token{Kind: iac.Verb, Code: will + r.Intn(4), Option: r.Intn(256)}
	case 2:
		return iac.Token{Kind: iac.Sub, Option: r.Intn(256), Body: someBytes(r, r.Intn(most+1))}
	case 3:
		return iac.Token{Kind: iac.Data, Code: ff}
	}
	return iac.Token{Kind: iac.Data, Code: r.Intn(256)}
}

// P6.1, P6.2: long lists, by chance, some of them with wrong tokens.
func TestLongLists(t *testing.T) {
	r := rand.New(rand.NewSource(62))
	for i := range 600 {
		list := make([]iac.Token, r.Intn(300))
		for j := range list {
			list[j] = someToken(r, i%3)
		}
		holdsAll(t, list)
	}
}

// mustAnswerApart asks for an answer three times, writes over the first one and
// over what was given (by spoil), and holds the others against what they were.
func mustAnswerApart(t *testing.T, ask func() []byte, spoil func()) {
	t.Helper()
	a, b, c := ask(), ask(), ask()
	want := bytes.Clone(b)
	scribble(a)
	if !bytes.Equal(b, want) || !bytes.Equal(c, want) || !bytes.Equal(ask(), want) {
		t.Fatalf("% .60x shares memory with another answer", want)
	}
	scribble(c)
	spoil()
	if !bytes.Equal(b, want) {
		t.Fatalf("% .60x shares memory with what was given: % .60x", want, b)
	}
}

// No answer shares memory with another one, or with what was given.
func TestAnswersApart(t *testing.T) {
	for _, b := range [][]byte{nil, {}, {1}, {ff}, {1, 2, 3, 4, 5, 6, 7, 8}, {ff, ff, ff}, row(most), nines(most), row(most + 9)} {
		_, all := given(b)
		theirs := all[:len(b)]
		mustAnswerApart(t, func() []byte { return emit.Data(theirs) }, func() { scribble(theirs) })
		if len(b) <= most {
			theirs, all = given(b)
			mustAnswerApart(t, func() []byte { got, _ := emit.Sub(24, theirs); return got }, func() { scribble(all) })
		}
	}
	for code := nop; code <= ga; code++ {
		mustAnswerApart(t, func() []byte { got, _ := emit.Plain(code); return got }, func() {})
	}
	for code := will; code <= dont; code++ {
		mustAnswerApart(t, func() []byte { got, _ := emit.Verb(code, code); return got }, func() {})
	}
}

// No answer of Token or All shares memory with another one, or with a body.
func TestTokensApart(t *testing.T) {
	for _, x := range samples() {
		x.Body, _ = given(x.Body)
		mustAnswerApart(t, func() []byte { got, _ := emit.Token(x); return got }, func() { scribble(x.Body) })
	}
	for i := range samples() {
		for _, list := range [][]iac.Token{samples()[i:], samples()[:i+1], samples()[i : i+1]} {
			spoil := func() {
				for j := range list {
					scribble(list[j].Body)
				}
				clear(list)
			}
			mustAnswerApart(t, func() []byte { got, _ := emit.All(list); return got }, spoil)
		}
	}
}

// The errors themselves stand, and what a call refused leaves nothing behind.
func TestAfterErrors(t *testing.T) {
	for _, x := range wrongs() {
		for _, y := range samples() {
			if _, err := emit.All([]iac.Token{y, x}); err == nil {
				t.Fatalf("%+v has bytes", x)
			}
			holdsToken(t, y)
		}
	}
}

// No token makes a call panic, or is told otherwise than it should be.
func FuzzToken(f *testing.F) {
	for _, x := range append(samples(), wrongs()...) {
		f.Add(x.Kind, x.Code, x.Option, x.Body, x.Cut)
	}
	f.Fuzz(func(t *testing.T, kind, code, option int, body []byte, cut bool) {
		x := iac.Token{Kind: kind, Code: code, Option: option, Body: body, Cut: cut}
		holdsToken(t, x)
		holdsAll(t, append(samples(), x))
		holdsData(t, body)
		holdsSub(t, option, body)
	})
}
