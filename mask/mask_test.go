package mask_test

import (
	"bytes"
	"errors"
	"math"
	"math/rand"
	"slices"
	"strconv"
	"strings"
	"testing"

	"truchman/api"
	"truchman/mask"
)

// The verbs by their numbers, as layer 4 has them.
const (
	will = 251
	wont = 252
	do   = 253
	dont = 254
)

// verbs is all verbs.
func verbs() []int { return []int{will, wont, do, dont} }

// isVerb is whether a number should be a verb.
func isVerb(n int) bool { return slices.Contains(verbs(), n) }

// noVerbs is each number from -300 to 600 that is no verb, and such as are far
// below and far beyond: among them such whose last byte is that of a verb.
func noVerbs() []int {
	list := []int{
		math.MinInt, math.MinInt + 1, math.MinInt + 253, math.MinInt32, math.MinInt32 + 253, math.MinInt16, -1 << 32, -1<<32 + 253, -1<<16 + 254,
		1<<10 + 253, 1 << 16, 1<<16 + 251, math.MaxInt32, math.MaxInt32 - 2, 1 << 31, 1<<31 + 253, math.MaxUint32 - 2, 1 << 32, 1<<32 + 253,
		1<<40 + 252, 1<<62 + 253, math.MaxInt - 2, math.MaxInt - 1, math.MaxInt,
	}
	for n := -300; n <= 600; n++ {
		list = append(list, n)
	}
	return slices.DeleteFunc(list, isVerb)
}

// set is the bytes that should be in a mask.
type set map[byte]bool

// setOf is the set of bytes.
func setOf(b []byte) set {
	s := set{}
	for _, c := range b {
		s[c] = true
	}
	return s
}

// sorted is a set's bytes, rising, each once.
func (s set) sorted() []byte {
	list := []byte{}
	for c := range s {
		list = append(list, c)
	}
	slices.Sort(list)
	return list
}

// rowOf is a set's row: its figures of 0 and 1 are written, one for each byte,
// and each eight of them read as one number.
func rowOf(s set) []byte {
	figures := []byte(strings.Repeat("0", 256))
	for c := range s {
		figures[c] = '1'
	}
	var row []byte
	for part := range slices.Chunk(figures, 8) {
		n, err := strconv.ParseUint(string(part), 2, 8)
		if err != nil {
			panic(err)
		}
		row = append(row, byte(n))
	}
	return bytes.TrimRight(row, "\x00")
}

// setOfRow is the set of a row of 32 bytes at most.
func setOfRow(row []byte) set {
	s := set{}
	for i, c := range row {
		for at, figure := range strconv.FormatUint(256+uint64(c), 2)[1:] {
			if figure == '1' {
				s[byte(i*8+at)] = true
			}
		}
	}
	return s
}

// bodyOf is what Body should answer.
func bodyOf(verb int, s set) ([]byte, error) {
	switch {
	case !isVerb(verb):
		return nil, api.ErrKind
	case verb == do:
		return append([]byte{do, 2}, rowOf(s)...), nil
	}
	return []byte{byte(verb), 2}, nil
}

// parsed is what Parse should answer, the mask as its set.
func parsed(b []byte) (verb int, s set, err error) {
	switch {
	case len(b) == 0 || len(b) == 1:
		return 0, nil, api.ErrShort
	case b[0] < will || b[0] > dont || b[1] != 2:
		return 0, nil, api.ErrKind
	case b[0] != do && len(b) >= 3 || len(b) >= 35:
		return 0, nil, api.ErrLong
	}
	return int(b[0]), setOfRow(b[2:]), nil
}

// every is all 256 bytes.
func every() []byte {
	list := make([]byte, 256)
	for c := range 256 {
		list[c] = byte(c)
	}
	return list
}

// isError is whether an error is the one that is asked for.
func isError(got, want error) bool {
	if want == nil {
		return got == nil
	}
	return errors.Is(got, want)
}

// given is bytes, and the same with room behind them that isn't theirs.
func given(b []byte) (theirs, all []byte) {
	all = slices.Concat(b, []byte("####"))
	return all[:len(b)], all
}

// scribble writes over bytes, and over the room behind them.
func scribble(b []byte) {
	b = b[:cap(b)]
	for i := range b {
		b[i] = '?'
	}
}

// mustHave holds what a mask tells of itself against a set, twice: writing over
// its bytes and its rows turns nothing.
func mustHave(t *testing.T, m mask.Mask, s set) {
	t.Helper()
	was, list, want := m, s.sorted(), rowOf(s)
	for range 2 {
		for c := range 256 {
			if got := m.Has(byte(c)); got != s[byte(c)] {
				t.Fatalf("Has of %d: %v, of % x", c, got, list)
			}
		}
		b, row := m.Bytes(), m.Row()
		if !bytes.Equal(b, list) {
			t.Fatalf("Bytes: % x, not % x", b, list)
		}
		if !bytes.Equal(row, want) {
			t.Fatalf("Row: % x, not % x, of % x", row, want, list)
		}
		scribble(b)
		scribble(row)
	}
	if m != was {
		t.Fatalf("asking turned the mask of % x", list)
	}
}

// mustTell holds each verb's body of a mask against the model; Parse of it is
// the verb and, of DO, the mask as it was.
func mustTell(t *testing.T, m mask.Mask, s set) {
	t.Helper()
	for _, verb := range verbs() {
		want, _ := bodyOf(verb, s)
		for range 2 {
			got, err := mask.Body(verb, m)
			if err != nil || !bytes.Equal(got, want) {
				t.Fatalf("Body of %d: % x, %v, not % x", verb, got, err, want)
			}
			scribble(got)
		}
		back := mask.Mask{}
		if verb == do {
			back = m
		}
		body, _ := mask.Body(verb, m)
		if v, x, err := mask.Parse(body); v != verb || x != back || err != nil {
			t.Fatalf("Parse of % x: %d, % x, %v, not %d, % x", body, v, x, err, verb, back)
		}
	}
}

// mustBe holds the mask of bytes against the model. What Of was given isn't
// changed, nor kept.
func mustBe(t *testing.T, b []byte) {
	t.Helper()
	theirs, all := given(b)
	m := mask.Of(theirs)
	if string(all) != string(b)+"####" {
		t.Fatalf("Of changed what it was given: % .60x, it was % .60x", all, b)
	}
	scribble(all)
	s := setOf(b)
	mustHave(t, m, s)
	mustTell(t, m, s)
	if back := mask.Of(m.Bytes()); back != m {
		t.Fatalf("the mask of a mask's bytes: % x, not % x", back, m)
	}
}

// mustRead holds Parse of bytes against the model. What it was given isn't
// changed, nor kept.
func mustRead(t *testing.T, b []byte) {
	t.Helper()
	wantVerb, s, wantErr := parsed(b)
	theirs, all := given(b)
	verb, m, err := mask.Parse(theirs)
	if string(all) != string(b)+"####" {
		t.Fatalf("Parse changed what it was given: % .60x, it was % .60x", all, b)
	}
	scribble(all)
	if verb != wantVerb || !isError(err, wantErr) {
		t.Fatalf("Parse of % .60x: %d, %v, not %d, %v", b, verb, err, wantVerb, wantErr)
	}
	if err != nil && m != (mask.Mask{}) {
		t.Fatalf("Parse of % .60x: % x beside %v", b, m, err)
	}
	if want := mask.Of(s.sorted()); m != want {
		t.Fatalf("Parse of % .60x: % x, not % x", b, m, want)
	}
	mustHave(t, m, s)
}

func TestExample(t *testing.T) {
	if row := mask.Of([]byte{1}).Row(); !bytes.Equal(row, []byte{64}) {
		t.Errorf("the row of the byte 1: % x", row)
	}
}

// P16.1: the mask of no bytes has none, and no row.
func TestOfNoBytes(t *testing.T) {
	mustBe(t, nil)
	mustBe(t, []byte{})
	m := mask.Of(nil)
	if m != (mask.Mask{}) || len(m.Bytes()) != 0 || len(m.Row()) != 0 {
		t.Errorf("it is % x, its bytes % x, its row % x", m, m.Bytes(), m.Row())
	}
	mustHave(t, mask.Mask{}, set{})
	mustTell(t, mask.Mask{}, set{})
}

// P16.1: the mask of each single byte has that byte alone; ahead of its row's
// last byte are noughts.
func TestOfSingles(t *testing.T) {
	for c := range 256 {
		b := []byte{byte(c)}
		mustBe(t, b)
		want := make([]byte, c/8+1)
		want[c/8] = []byte{128, 64, 32, 16, 8, 4, 2, 1}[c%8]
		if row := mask.Of(b).Row(); !bytes.Equal(row, want) {
			t.Errorf("the row of the byte %d: % x, not % x", c, row, want)
		}
	}
}

// noughts is bytes behind as many noughts as are asked for.
func noughts(n int, b ...byte) []byte { return append(make([]byte, n), b...) }

// P16.1: rows that are written down.
func TestRowsWrittenDown(t *testing.T) {
	for _, row := range []struct {
		b    []byte
		want []byte
	}{
		{[]byte{0}, []byte{128}},
		{[]byte{1}, []byte{64}},
		{[]byte{2}, []byte{32}},
		{[]byte{6}, []byte{2}},
		{[]byte{7}, []byte{1}},
		{[]byte{8}, []byte{0, 128}},
		{[]byte{9}, []byte{0, 64}},
		{[]byte{13}, []byte{0, 4}},
		{[]byte{15}, []byte{0, 1}},
		{[]byte{16}, []byte{0, 0, 128}},
		{[]byte{27}, []byte{0, 0, 0, 16}},
		{[]byte{65}, []byte{0, 0, 0, 0, 0, 0, 0, 0, 64}},
		{[]byte{127}, noughts(15, 1)},
		{[]byte{128}, noughts(16, 128)},
		{[]byte{247}, noughts(30, 1)},
		{[]byte{248}, noughts(31, 128)},
		{[]byte{254}, noughts(31, 2)},
		{[]byte{255}, noughts(31, 1)},
		{[]byte{0, 1}, []byte{192}},
		{[]byte{0, 7}, []byte{129}},
		{[]byte{7, 0}, []byte{129}},
		{[]byte{0, 8}, []byte{128, 128}},
		{[]byte{7, 8}, []byte{1, 128}},
		{[]byte{3, 4, 10, 13, 27}, []byte{24, 36, 0, 16}},
		{[]byte{0, 1, 2, 3, 4, 5, 6, 7}, []byte{255}},
		{[]byte{0, 255}, append([]byte{128}, noughts(30, 1)...)},
		{every(), bytes.Repeat([]byte{255}, 32)},
		{every()[1:], append([]byte{127}, bytes.Repeat([]byte{255}, 31)...)},
		{every()[:255], append(bytes.Repeat([]byte{255}, 31), 254)},
		{every()[:248], bytes.Repeat([]byte{255}, 31)},
		{every()[8:], append([]byte{0}, bytes.Repeat([]byte{255}, 31)...)},
	} {
		m := mask.Of(row.b)
		if got := m.Row(); !bytes.Equal(got, row.want) {
			t.Errorf("the row of % x: % x, not % x", row.b, got, row.want)
		}
		if got, err := mask.Body(do, m); err != nil || !bytes.Equal(got, append([]byte{do, 2}, row.want...)) {
			t.Errorf("Body of DO, of % x: % x, %v", row.b, got, err)
		}
		if verb, got, err := mask.Parse(append([]byte{do, 2}, row.want...)); verb != do || got != m || err != nil {
			t.Errorf("Parse of DO and % x: %d, % x, %v", row.want, verb, got, err)
		}
		mustBe(t, row.b)
	}
}

// P16.1, P16.2: the mask of all 256 bytes has them all, in 32 bytes.
func TestOfAll(t *testing.T) {
	all := every()
	back := bytes.Clone(all)
	slices.Reverse(back)
	for _, b := range [][]byte{all, back, append(all, back...), bytes.Repeat(all, 9)} {
		mustBe(t, b)
		m := mask.Of(b)
		if !bytes.Equal(m.Bytes(), every()) || len(m.Row()) != 32 {
			t.Errorf("its bytes are % x, its row % x", m.Bytes(), m.Row())
		}
	}
}

// P16.1, P16.2: all but one byte, and each two.
func TestOfAllButOne(t *testing.T) {
	for c := range 256 {
		mustBe(t, slices.Delete(every(), c, c+1))
	}
	for a := range 256 {
		for _, step := range []int{1, 2, 7, 8, 9, 16, 128, 255} {
			mustBe(t, []byte{byte(a), byte(a + step)})
		}
	}
}

// P16.1: bytes that come twice, in any order, are in once.
func TestOfTwice(t *testing.T) {
	for _, b := range []string{"aa", "aba", "bab", "bba", "\x00\x00", "\xff\x00\xff", "\x08\x00\x08\x00", "zyx\x80\x7f\x80zyx", strings.Repeat("q", 1000)} {
		mustBe(t, []byte(b))
	}
	for a := range 256 {
		b := byte(a)
		mustBe(t, []byte{b, b})
		mustBe(t, []byte{b, b ^ 8, b, b ^ 1})
		if mask.Of([]byte{b, b ^ 5}) != mask.Of([]byte{b ^ 5, b, b ^ 5, b}) {
			t.Errorf("the order of %d and %d is told", a, a^5)
		}
	}
}

// P16.1: each range of bytes.
func TestOfRanges(t *testing.T) {
	all := every()
	for from := 0; from < 256; from += 3 {
		for to := from + 1; to <= 256; to += 5 {
			m, s := mask.Of(all[from:to]), setOf(all[from:to])
			mustHave(t, m, s)
		}
	}
}

// P16.1: Body of each number that is no verb, whatever the mask has.
func TestBodyOfNoVerb(t *testing.T) {
	for _, b := range [][]byte{nil, {1}, {0, 255}, every()} {
		for _, n := range noVerbs() {
			if got, err := mask.Body(n, mask.Of(b)); len(got) != 0 || !errors.Is(err, api.ErrKind) {
				t.Errorf("Body of %d: % x, %v", n, got, err)
			}
		}
	}
}

// P16.1: Body of each verb: the row is DO's alone.
func TestBodyOfVerbs(t *testing.T) {
	for _, row := range []struct {
		verb int
		b    []byte
		want []byte
	}{
		{do, nil, []byte{253, 2}},
		{do, []byte{1}, []byte{253, 2, 64}},
		{do, []byte{8, 1}, []byte{253, 2, 64, 128}},
		{do, []byte{27}, []byte{253, 2, 0, 0, 0, 16}},
		{do, every(), append([]byte{253, 2}, bytes.Repeat([]byte{255}, 32)...)},
		{will, nil, []byte{251, 2}},
		{will, every(), []byte{251, 2}},
		{wont, []byte{1}, []byte{252, 2}},
		{wont, every(), []byte{252, 2}},
		{dont, nil, []byte{254, 2}},
		{dont, []byte{1}, []byte{254, 2}},
		{dont, every(), []byte{254, 2}},
	} {
		if got, err := mask.Body(row.verb, mask.Of(row.b)); err != nil || !bytes.Equal(got, row.want) {
			t.Errorf("Body of %d, of % x: % x, %v, not % x", row.verb, row.b, got, err, row.want)
		}
	}
}

// P16.1: what a call answered isn't changed by what is asked later, nor by
// writing over other answers.
func TestApart(t *testing.T) {
	m, other := mask.Of([]byte("az")), mask.Of([]byte("bz"))
	rows := [][]byte{m.Row(), m.Row(), other.Row(), m.Bytes(), m.Bytes(), other.Bytes()}
	for _, x := range []mask.Mask{m, m, other} {
		b, err := mask.Body(do, x)
		if err != nil {
			t.Fatalf("Body: %v", err)
		}
		rows = append(rows, b)
	}
	was := make([][]byte, len(rows))
	for i, b := range rows {
		was[i] = bytes.Clone(b)
	}
	for i, b := range rows {
		if !bytes.Equal(b, was[i]) {
			t.Errorf("answer %d is % x, it was % x", i, b, was[i])
		}
		scribble(b)
	}
	mustHave(t, m, setOf([]byte("az")))
	mustHave(t, other, setOf([]byte("bz")))
	copied := m
	copied[0] = 255
	mustHave(t, m, setOf([]byte("az")))
}

// P16.1: Parse of no bytes, and of one.
func TestParseOfTooFew(t *testing.T) {
	mustRead(t, nil)
	mustRead(t, []byte{})
	for c := range 256 {
		mustRead(t, []byte{byte(c)})
	}
}

// P16.1: Parse of each two bytes, alone and with rows behind them.
func TestParseOfEachTwo(t *testing.T) {
	for first := range 256 {
		for second := range 256 {
			b := []byte{byte(first), byte(second)}
			verb, m, err := mask.Parse(b)
			wantVerb, _, wantErr := parsed(b)
			if verb != wantVerb || m != (mask.Mask{}) || !isError(err, wantErr) {
				t.Fatalf("Parse of % x: %d, % x, %v, not %d, %v", b, verb, m, err, wantVerb, wantErr)
			}
		}
		for _, second := range []byte{0, 1, 2, 3, 34, 130, 253, 255} {
			for _, n := range []int{0, 1, 2, 31, 32, 33, 34, 300} {
				mustRead(t, append([]byte{byte(first), second}, bytes.Repeat([]byte{65}, n)...))
			}
		}
	}
}

// P16.1: Parse of each verb with rows of each length, and far longer ones.
func TestParseOfLengths(t *testing.T) {
	lengths := []int{254, 255, 256, 257, 288, 512, 544, 1<<12 + 1, 1 << 16, 1<<16 + 32, 1 << 20}
	for n := range 100 {
		lengths = append(lengths, n)
	}
	for _, n := range lengths {
		for _, verb := range verbs() {
			want := api.ErrLong
			if n == 0 || verb == do && n <= 32 {
				want = nil
			}
			for _, c := range []byte{0, 1, 128, 255} {
				b := append([]byte{byte(verb), 2}, bytes.Repeat([]byte{c}, n)...)
				mustRead(t, b)
				if _, _, err := mask.Parse(b); !isError(err, want) {
					t.Fatalf("Parse of %d with %d bytes: %v, not %v", verb, n, err, want)
				}
			}
		}
	}
}

// P16.1: which error Parse tells, where two would be true.
func TestParseErrors(t *testing.T) {
	long := make([]byte, 33)
	for _, row := range []struct {
		b   []byte
		err error
	}{
		{nil, api.ErrShort},
		{[]byte{253}, api.ErrShort},
		{[]byte{0}, api.ErrShort},
		{[]byte{255}, api.ErrShort},
		{[]byte{250, 2}, api.ErrKind},
		{[]byte{255, 2}, api.ErrKind},
		{[]byte{2, 253}, api.ErrKind},
		{[]byte{253, 0}, api.ErrKind},
		{[]byte{253, 1}, api.ErrKind},
		{[]byte{253, 3}, api.ErrKind},
		{[]byte{1, 1}, api.ErrKind},
		{append([]byte{255, 2}, long...), api.ErrKind},
		{append([]byte{250, 2}, long...), api.ErrKind},
		{append([]byte{253, 3}, long...), api.ErrKind},
		{append([]byte{0, 0}, long...), api.ErrKind},
		{[]byte{251, 3, 1}, api.ErrKind},
		{[]byte{254, 0, 0}, api.ErrKind},
		{append([]byte{253, 2}, long...), api.ErrLong},
		{append(append([]byte{253, 2}, long...), long...), api.ErrLong},
		{[]byte{251, 2, 0}, api.ErrLong},
		{[]byte{252, 2, 64}, api.ErrLong},
		{[]byte{254, 2, 64, 0}, api.ErrLong},
		{append([]byte{254, 2}, long...), api.ErrLong},
	} {
		if verb, m, err := mask.Parse(row.b); verb != 0 || m != (mask.Mask{}) || !errors.Is(err, row.err) {
			t.Errorf("Parse of % x: %d, % x, %v, not %v", row.b, verb, m, err, row.err)
		}
		mustRead(t, row.b)
	}
}

// P16.1: noughts at a row's end, and rows of noughts alone, tell nothing.
func TestParseOfNoughts(t *testing.T) {
	for _, row := range [][]byte{nil, {64}, {1}, {0, 128}, {255, 0, 255}, noughts(15, 1), noughts(30, 7), noughts(31, 1)} {
		want := mask.Of(setOfRow(row).sorted())
		for n := 0; len(row)+n <= 32; n++ {
			b := append(append([]byte{do, 2}, row...), noughts(n)...)
			if verb, m, err := mask.Parse(b); verb != do || m != want || err != nil {
				t.Fatalf("Parse of % x: %d, % x, %v, not % x", b, verb, m, err, want)
			}
			mustRead(t, b)
			if back, err := mask.Body(do, want); err != nil || !bytes.Equal(back, append([]byte{do, 2}, row...)) {
				t.Fatalf("Body of % x: % x, %v", want, back, err)
			}
		}
	}
}

// P16.1: a row's every byte, at every place.
func TestParseOfEachByte(t *testing.T) {
	for at := range 32 {
		for c := range 256 {
			mustRead(t, append([]byte{do, 2}, noughts(at, byte(c))...))
		}
	}
}

// P16.2: a mask that is made as an array is parsed from its body as it was.
func TestArrays(t *testing.T) {
	for at := range 32 {
		for c := range 256 {
			var m mask.Mask
			m[at] = byte(c)
			s := setOfRow(m[:])
			if m != mask.Of(s.sorted()) {
				t.Fatalf("the mask of % x isn't % x", s.sorted(), m)
			}
			mustTell(t, m, s)
		}
	}
}

// some is bytes by chance, few or many, of all bytes or of some.
func some(chance *rand.Rand) []byte {
	b := make([]byte, chance.Intn([]int{2, 10, 60, 300, 2000}[chance.Intn(5)]))
	from, span := chance.Intn(256), 1+chance.Intn(256)
	for i := range b {
		b[i] = byte(from + chance.Intn(span))
	}
	return b
}

// body is bytes by chance, mostly a body, or nearly one.
func body(chance *rand.Rand) []byte {
	b := []byte{byte(verbs()[chance.Intn(4)]), 2}
	if chance.Intn(2) == 0 {
		b[0] = do
	}
	row := make([]byte, chance.Intn(36))
	for i := range row {
		row[i] = byte(chance.Intn(256) & chance.Intn(256))
	}
	b = append(b, row...)
	switch chance.Intn(8) {
	case 0:
		b[0] = byte(chance.Intn(256))
	case 1:
		b[1] = byte(chance.Intn(256))
	case 2:
		b = b[:chance.Intn(3)]
	case 3:
		b = append(b, noughts(chance.Intn(33))...)
	}
	return b
}

// P16.1, P16.2: masks, rows and bodies by chance.
func TestByChance(t *testing.T) {
	chance := rand.New(rand.NewSource(16))
	none := noVerbs()
	for range 8000 {
		b := some(chance)
		mustBe(t, b)
		mustRead(t, body(chance))
		verb := none[chance.Intn(len(none))]
		if got, err := mask.Body(verb, mask.Of(b)); len(got) != 0 || !errors.Is(err, api.ErrKind) {
			t.Fatalf("Body of %d: % x, %v", verb, got, err)
		}
	}
}

// No numbers and no bytes make a call panic, or are answered otherwise than they
// should be.
func FuzzCalls(f *testing.F) {
	f.Add(253, []byte{1, 13, 255}, []byte{253, 2, 64})
	f.Add(-3, []byte{}, []byte{251, 2})
	f.Add(math.MinInt, []byte{0, 0, 8}, []byte{254, 2, 0})
	f.Fuzz(func(t *testing.T, verb int, b, c []byte) {
		for _, x := range [][]byte{b, c} {
			mustBe(t, x)
			mustRead(t, x)
			mustRead(t, append([]byte{do, 2}, x...))
			want, wantErr := bodyOf(verb, setOf(x))
			got, err := mask.Body(verb, mask.Of(x))
			if !bytes.Equal(got, want) || !isError(err, wantErr) {
				t.Fatalf("Body of %d, of % .60x: % x, %v, not % x, %v", verb, x, got, err, want, wantErr)
			}
		}
	})
}
