package nvt_test

import (
	"bytes"
	"math/rand"
	"slices"
	"testing"

	"truchman/emit"
	"truchman/gram"
	"truchman/iac"
	"truchman/nvt"
)

// What the chapter's bytes are, told here by their numbers.
const (
	lf = 10
	cr = 13
	ff = 255
)

// ways is raw, and not raw.
var ways = []bool{true, false}

// few is the bytes on which the rules hang, and some that are like others.
var few = []byte{0, lf, cr, 'A', 240, ff}

// modelOut is what should go out: told by replacing, behind each 13 a 0 that is
// taken away again ahead of a 10.
func modelOut(b []byte, raw bool) []byte {
	if raw {
		return b
	}
	b = bytes.ReplaceAll(b, []byte{cr}, []byte{cr, 0})
	return bytes.ReplaceAll(b, []byte{cr, 0, lf}, []byte{cr, lf})
}

// modelIn is what should come in: told by replacing.
func modelIn(b []byte, raw bool) []byte {
	if raw {
		return b
	}
	return bytes.ReplaceAll(b, []byte{cr, 0}, []byte{cr})
}

// behindOne tells whether, ahead of place i, the last byte is a 13 that came not
// raw: of the byte i-1 alone, whatever came earlier.
func behindOne(b []byte, raws []bool, i int) bool {
	return i > 0 && b[i-1] == cr && !raws[i-1]
}

// given is bytes, and the same with room behind them that isn't theirs. The
// room would make a 13 at the very end a line's end, if it were looked at.
func given(b []byte) (theirs, all []byte) {
	all = slices.Concat(b, []byte{lf, 0, lf, 0})
	return all[:len(b)], all
}

// mustStand holds what given made against what it was made of.
func mustStand(t *testing.T, all, b []byte) {
	t.Helper()
	if string(all) != string(b)+"\n\x00\n\x00" {
		t.Fatalf("what was given is changed: % .60x, it was % .60x", all, b)
	}
}

// scribble writes over bytes, and over the room behind them.
func scribble(b []byte) {
	b = b[:cap(b)]
	for i := range b {
		b[i] = '?'
	}
}

// mustAnswer holds a call of bytes against what it should answer, twice, with
// the first answer written over.
func mustAnswer(t *testing.T, what string, call func([]byte, bool) []byte, b []byte, raw bool, want []byte) {
	t.Helper()
	want = slices.Clone(want)
	theirs, all := given(b)
	for range 2 {
		got := call(theirs, raw)
		if !bytes.Equal(got, want) {
			t.Fatalf("%s(% .60x, %v): % .60x, not % .60x", what, b, raw, got, want)
		}
		scribble(got)
		mustStand(t, all, b)
	}
}

// mustEncode holds Encode against what is written down, and against the model.
func mustEncode(t *testing.T, b []byte, raw bool, want []byte) {
	t.Helper()
	mustAnswer(t, "Encode", nvt.Encode, b, raw, want)
	if model := modelOut(b, raw); !bytes.Equal(model, want) {
		t.Fatalf("the model of Encode(% .60x, %v): % .60x, not % .60x", b, raw, model, want)
	}
}

// mustDecode holds Decode against what is written down, and against the model.
func mustDecode(t *testing.T, b []byte, raw bool, want []byte) {
	t.Helper()
	mustAnswer(t, "Decode", nvt.Decode, b, raw, want)
	if model := modelIn(b, raw); !bytes.Equal(model, want) {
		t.Fatalf("the model of Decode(% .60x, %v): % .60x, not % .60x", b, raw, model, want)
	}
	mustStay(t, b, slices.Repeat([]bool{raw}, len(b)), want)
}

// mustStay holds that a machine that has met nothing lets these bytes stay, each
// one raw or not, and no other ones; Behind is asked between them, many times.
func mustStay(t *testing.T, b []byte, raws []bool, want []byte) {
	t.Helper()
	var asked, unasked nvt.In
	var stay []byte
	for i, c := range b {
		for range 3 {
			if got := asked.Behind(); got != behindOne(b, raws, i) {
				t.Fatalf("Behind at %d of % .60x, %v: %v", i, b, raws[:i], got)
			}
		}
		stays := asked.Next(c, raws[i])
		if got := unasked.Next(c, raws[i]); got != stays {
			t.Fatalf("Next at %d of % .60x: %v, and asked for Behind %v", i, b, got, stays)
		}
		if out := behindOne(b, raws, i) && c == 0 && !raws[i]; out == stays {
			t.Fatalf("Next at %d of % .60x, %v: %v", i, b, raws[:i+1], stays)
		}
		if stays {
			stay = append(stay, c)
		}
	}
	end := behindOne(b, raws, len(b))
	if asked.Behind() != end || unasked.Behind() != end {
		t.Fatalf("Behind at the end of % .60x: %v, %v, not %v", b, asked.Behind(), unasked.Behind(), end)
	}
	if !bytes.Equal(stay, want) {
		t.Fatalf("what stays of % .60x: % .60x, not % .60x", b, stay, want)
	}
}

// mustPair holds that behind each 13 of what goes out, not raw, a 0 or a 10
// stands.
func mustPair(t *testing.T, out []byte) {
	t.Helper()
	for i, c := range out {
		if c == cr && (i+1 == len(out) || out[i+1] != 0 && out[i+1] != lf) {
			t.Fatalf("a 13 by itself at %d of % .60x", i, out)
		}
	}
}

// mustReturn holds that what goes out comes in as it was, in parts that are
// encoded one by one, and decoded together.
func mustReturn(t *testing.T, parts ...[]byte) {
	t.Helper()
	b := slices.Concat(parts...)
	for _, raw := range ways {
		var out []byte
		for _, part := range parts {
			out = append(out, nvt.Encode(part, raw)...)
		}
		if got := nvt.Decode(out, raw); !bytes.Equal(got, b) {
			t.Fatalf("% .60x, in %d parts, raw: %v, went out as % .60x and came in as % .60x", b, len(parts), raw, out, got)
		}
		if raw && !bytes.Equal(out, b) {
			t.Fatalf("% .60x went out raw as % .60x", b, out)
		}
		if !raw {
			mustPair(t, out)
		}
	}
}

// holds holds all calls against the models, raw and not raw, and what goes out
// against what comes in.
func holds(t *testing.T, parts ...[]byte) {
	t.Helper()
	b := slices.Concat(parts...)
	for _, raw := range ways {
		mustEncode(t, b, raw, modelOut(b, raw))
		mustDecode(t, b, raw, modelIn(b, raw))
	}
	mustReturn(t, b)
}

// eachRow tells each row of so many bytes of few.
func eachRow(n int, tell func(b []byte)) {
	rows := [][]byte{nil}
	for range n {
		var longer [][]byte
		for _, b := range rows {
			for _, c := range few {
				longer = append(longer, append(slices.Clone(b), c))
			}
		}
		rows = longer
	}
	for _, b := range rows {
		tell(b)
	}
}

// eachWay tells each way in which so many bytes can come raw or not.
func eachWay(n int, tell func(raws []bool)) {
	for bits := range 1 << n {
		raws := make([]bool, n)
		for i := range raws {
			raws[i] = bits>>i&1 == 1
		}
		tell(raws)
	}
}

// The chapter's example, and the same raw.
func TestExample(t *testing.T) {
	mustEncode(t, []byte{13, 65}, false, []byte{13, 0, 65})
	mustDecode(t, []byte{13, 0, 65}, false, []byte{13, 65})
	mustEncode(t, []byte{13, 65}, true, []byte{13, 65})
	mustDecode(t, []byte{13, 0, 65}, true, []byte{13, 0, 65})
}

// P8.1: no bytes.
func TestNoBytes(t *testing.T) {
	for _, b := range [][]byte{nil, {}, []byte("\r\n")[:0]} {
		for _, raw := range ways {
			mustEncode(t, b, raw, nil)
			mustDecode(t, b, raw, nil)
		}
	}
}

// P8.1: each byte by itself.
func TestEachByte(t *testing.T) {
	for c := range 256 {
		b := []byte{byte(c)}
		mustEncode(t, b, true, b)
		mustDecode(t, b, true, b)
		mustDecode(t, b, false, b)
		if c == cr {
			mustEncode(t, b, false, []byte{cr, 0})
		} else {
			mustEncode(t, b, false, b)
		}
		mustReturn(t, b)
	}
}

// P8.1, P8.2: each two bytes.
func TestEachTwoBytes(t *testing.T) {
	for c := range 256 {
		for d := range 256 {
			holds(t, []byte{byte(c), byte(d)})
		}
	}
}

// P8.1, P8.2: each three, and each four bytes of few, and five, too.
func TestEachOfASmallSet(t *testing.T) {
	for _, n := range []int{3, 4, 5} {
		eachRow(n, func(b []byte) { holds(t, b) })
	}
}

// P8.1: 13 ahead of each byte, in the middle.
func TestReturnAheadOfEachByte(t *testing.T) {
	for c := range 256 {
		d := byte(c)
		b := []byte{'a', cr, d, 'b'}
		mustEncode(t, b, true, b)
		mustDecode(t, b, true, b)
		switch d {
		case 0:
			mustEncode(t, b, false, []byte{'a', cr, 0, 0, 'b'})
			mustDecode(t, b, false, []byte{'a', cr, 'b'})
		case lf:
			mustEncode(t, b, false, b)
			mustDecode(t, b, false, b)
		case cr:
			mustEncode(t, b, false, []byte{'a', cr, 0, cr, 0, 'b'})
			mustDecode(t, b, false, b)
		default:
			mustEncode(t, b, false, []byte{'a', cr, 0, d, 'b'})
			mustDecode(t, b, false, b)
		}
	}
}

// P8.1: 13 at the very end, behind each byte: what stands in the room behind it
// isn't looked at.
func TestReturnAtTheEnd(t *testing.T) {
	for c := range 256 {
		b := []byte{byte(c), cr}
		mustEncode(t, b, true, b)
		mustDecode(t, b, true, b)
		mustDecode(t, b, false, b)
		if c == cr {
			mustEncode(t, b, false, []byte{cr, 0, cr, 0})
		} else {
			mustEncode(t, b, false, []byte{byte(c), cr, 0})
		}
	}
}

// P8.1: rows of bytes 13, by themselves and ahead of others.
func TestRowsOfReturns(t *testing.T) {
	for n := range 9 {
		returns, pairs := bytes.Repeat([]byte{cr}, n), bytes.Repeat([]byte{cr, 0}, n)
		mustEncode(t, returns, false, pairs)
		mustDecode(t, returns, false, returns)
		mustDecode(t, pairs, false, returns)
		mustEncode(t, returns, true, returns)
		mustDecode(t, pairs, true, pairs)
		for _, c := range few {
			holds(t, returns, []byte{c})
			holds(t, returns, []byte{c, c})
			holds(t, []byte{c}, returns)
		}
		if n > 0 {
			mustEncode(t, append(returns, lf), false, append(pairs[:2*n-1], lf))
		}
	}
}

// P8.1: a 0 behind all that can stand ahead of it.
func TestZeros(t *testing.T) {
	for _, x := range []struct{ b, want []byte }{
		{[]byte{cr, 0}, []byte{cr}},                          // behind a 13
		{[]byte{cr, 0, 0}, []byte{cr, 0}},                    // behind a 0 that was left out
		{[]byte{cr, 0, 0, 0}, []byte{cr, 0, 0}},              // behind a 0 that stays
		{[]byte{0, 0}, []byte{0, 0}},                         // behind a 0 that stays
		{[]byte{cr, lf, 0}, []byte{cr, lf, 0}},               // behind a 10
		{[]byte{lf, 0}, []byte{lf, 0}},                       // behind a 10
		{[]byte{0}, []byte{0}},                               // at the very beginning
		{[]byte{0, cr, 0}, []byte{0, cr}},                    // at the very beginning
		{[]byte{'a', 0, ff, 0}, []byte{'a', 0, ff, 0}},       // behind others
		{[]byte{cr, 'a', 0}, []byte{cr, 'a', 0}},             // not directly behind a 13
		{[]byte{cr, 0, 'a', 0}, []byte{cr, 'a', 0}},          // nor here
		{[]byte{cr, 0, lf, 0}, []byte{cr, lf, 0}},            // nor here
		{[]byte{cr, 0, cr, 0, 0}, []byte{cr, cr, 0}},         // behind each 13
		{[]byte{cr, 0, 0, cr, 0, 0}, []byte{cr, 0, cr, 0}},   // behind each 13
		{[]byte{cr, cr, 0, 0}, []byte{cr, cr, 0}},            // behind the second 13
		{[]byte{cr, cr, 0, 0, cr, 0}, []byte{cr, cr, 0, cr}}, // and behind one more
	} {
		mustDecode(t, x.b, false, x.want)
		mustDecode(t, x.b, true, x.b)
		holds(t, x.b)
	}
}

// P8.1: rows of 13, 0, 0, and of 13, 13, 0, 0.
func TestRowsOfReturnsAndZeros(t *testing.T) {
	for n := range 9 {
		b := bytes.Repeat([]byte{cr, 0, 0}, n)
		mustDecode(t, b, false, bytes.Repeat([]byte{cr, 0}, n))
		mustEncode(t, b, false, bytes.Repeat([]byte{cr, 0, 0, 0}, n))
		holds(t, b)
		b = bytes.Repeat([]byte{cr, cr, 0, 0}, n)
		mustDecode(t, b, false, bytes.Repeat([]byte{cr, cr, 0}, n))
		mustEncode(t, b, false, bytes.Repeat([]byte{cr, 0, cr, 0, 0, 0}, n))
		holds(t, b)
	}
}

// P8.1: long rows: nothing but bytes 13, nothing but bytes 0, both in turn, and
// others.
func TestLongRows(t *testing.T) {
	const n = 1 << 16
	returns, zeros := bytes.Repeat([]byte{cr}, n), make([]byte, n)
	pairs, turned := bytes.Repeat([]byte{cr, 0}, n), bytes.Repeat([]byte{0, cr}, n)
	mustEncode(t, returns, false, pairs)
	mustDecode(t, returns, false, returns)
	mustEncode(t, zeros, false, zeros)
	mustDecode(t, zeros, false, zeros)
	mustEncode(t, pairs, false, bytes.Repeat([]byte{cr, 0, 0}, n))
	mustDecode(t, pairs, false, returns)
	mustEncode(t, turned, false, bytes.Repeat([]byte{0, cr, 0}, n))
	mustDecode(t, turned, false, append([]byte{0}, returns...))
	for _, row := range [][]byte{{cr}, {0}, {cr, 0}, {0, cr}, {cr, 0, 0}, {cr, cr, 0, 0}, {cr, lf}, {'a', cr, ff, lf, 0}, {'x'}} {
		for _, n := range []int{255, 256, 1 << 10, 1 << 16} {
			b := bytes.Repeat(row, n)
			holds(t, b)
			holds(t, b[1:])
			mustReturn(t, b[:n/2], b[n/2:])
		}
	}
}

// P8.1: the zero In, and Next of each byte first.
func TestZeroIn(t *testing.T) {
	for _, raw := range ways {
		for c := range 256 {
			var d nvt.In
			for range 3 {
				if d.Behind() {
					t.Fatal("the zero In is behind a byte")
				}
			}
			if !d.Next(byte(c), raw) {
				t.Fatalf("%d, raw: %v, is left out, though nothing came ahead of it", c, raw)
			}
			if got, want := d.Behind(), c == cr && !raw; got != want {
				t.Fatalf("Behind of %d, raw: %v: %v", c, raw, got)
			}
		}
	}
}

// step is a byte that comes, raw or not, whether it stays, and what Behind is
// then.
type step struct {
	c             byte
	raw           bool
	stays, behind bool
}

// mustStep holds a machine that has met nothing against steps.
func mustStep(t *testing.T, steps ...step) {
	t.Helper()
	var d nvt.In
	for i, s := range steps {
		if got := d.Next(s.c, s.raw); got != s.stays {
			t.Fatalf("step %d of %v: Next %v", i, steps, got)
		}
		for range 3 {
			if got := d.Behind(); got != s.behind {
				t.Fatalf("step %d of %v: Behind %v", i, steps, got)
			}
		}
	}
}

// P8.1: raw turned on or off between a 13 and a 0, and between that 0 and one
// more, written down.
func TestRawTurned(t *testing.T) {
	left := step{c: 0}
	zero, rawZero := step{c: 0, stays: true}, step{c: 0, raw: true, stays: true}
	ret, rawRet := step{c: cr, stays: true, behind: true}, step{c: cr, raw: true, stays: true}
	mustStep(t, ret, left, zero, zero)
	mustStep(t, ret, left, rawZero, zero)
	mustStep(t, ret, rawZero, zero, zero)
	mustStep(t, ret, rawZero, rawZero, zero)
	mustStep(t, rawRet, zero, zero)
	mustStep(t, rawRet, zero, rawZero)
	mustStep(t, rawRet, rawZero, zero)
	mustStep(t, rawRet, rawZero, rawZero)
	mustStep(t, rawRet, ret, left, zero)
	mustStep(t, ret, rawRet, zero, zero)
	mustStep(t, ret, rawRet, rawZero, zero)
	mustStep(t, ret, ret, left, ret, left, zero)
	mustStep(t, ret, left, rawRet, zero, ret, left)
	for c := range 256 {
		behind := byte(c)
		if behind == cr || behind == 0 {
			continue
		}
		mustStep(t, ret, step{c: behind, stays: true}, zero)
		mustStep(t, ret, step{c: behind, raw: true, stays: true}, zero)
		mustStep(t, rawRet, step{c: behind, stays: true}, zero, ret, left)
	}
}

// mustMix holds a machine of bytes of which some come raw, against what is told
// of the byte ahead of each one.
func mustMix(t *testing.T, b []byte, raws []bool) {
	t.Helper()
	var want []byte
	for i, c := range b {
		if c == 0 && !raws[i] && behindOne(b, raws, i) {
			continue
		}
		want = append(want, c)
	}
	mustStay(t, b, raws, want)
}

// P8.1: Next and Behind byte by byte, of each row of few, in each way in which
// its bytes can come raw or not.
func TestSomeRaw(t *testing.T) {
	for n := range 5 {
		eachRow(n, func(b []byte) {
			eachWay(n, func(raws []bool) { mustMix(t, b, raws) })
		})
	}
}

// P8.1: each two bytes, with a 0 behind them, in each way.
func TestSomeRawOfAllBytes(t *testing.T) {
	for c := range 256 {
		for d := range 256 {
			eachWay(3, func(raws []bool) { mustMix(t, []byte{byte(c), byte(d), 0}, raws) })
		}
	}
}

// P8.1: Behind tells what Next of a 0 would, and that raw none is left out: a
// copy of the machine is asked, and goes its own way.
func TestBehindTellsNext(t *testing.T) {
	eachRow(4, func(b []byte) {
		eachWay(4, func(raws []bool) {
			var d nvt.In
			for i, c := range b {
				d.Next(c, raws[i])
				one, two := d, d
				if one.Next(0, false) == d.Behind() || !two.Next(0, true) {
					t.Fatalf("behind % x, %v", b[:i+1], raws[:i+1])
				}
			}
		})
	})
}

// P8.1: two machines don't know of each other, nor of the calls of all bytes.
func TestTwoMachines(t *testing.T) {
	for _, other := range few {
		for _, raw := range ways {
			var one, two nvt.In
			one.Next(cr, false)
			if two.Behind() {
				t.Fatal("the other one is behind a 13")
			}
			two.Next(other, raw)
			nvt.Decode([]byte{cr, 0, 'a'}, false)
			nvt.Encode([]byte{cr}, false)
			if !one.Behind() || two.Behind() != (other == cr && !raw) {
				t.Fatalf("%d, raw: %v: Behind %v, %v", other, raw, one.Behind(), two.Behind())
			}
			if stays := two.Next(0, false); stays == (other == cr && !raw) {
				t.Fatalf("%d, raw: %v: the other one's 0 stays: %v", other, raw, stays)
			}
			if !one.Behind() || one.Next(0, false) || !one.Next(0, false) {
				t.Fatal("the first one is changed")
			}
		}
	}
}

// P8.2: what goes out comes in as it was, in two and three parts that are
// encoded one by one: some end in 13, some begin with 0 or 10, some are empty.
func TestParts(t *testing.T) {
	for n := range 5 {
		eachRow(n, func(b []byte) {
			for i := range n + 1 {
				mustReturn(t, b[:i], b[i:])
				for j := i; j <= n; j++ {
					mustReturn(t, b[:i], b[i:j], b[j:])
				}
			}
			var single [][]byte
			for _, c := range b {
				single = append(single, []byte{c}, nil)
			}
			mustReturn(t, single...)
		})
	}
}

// P8.2: parts, written down: the 0 or 10 that begins the next part stands in
// other data.
func TestPartsWrittenDown(t *testing.T) {
	for _, x := range []struct {
		parts [][]byte
		want  []byte
	}{
		{[][]byte{{cr}, {lf}}, []byte{cr, 0, lf}},
		{[][]byte{{cr, lf}}, []byte{cr, lf}},
		{[][]byte{{cr}, {0}}, []byte{cr, 0, 0}},
		{[][]byte{{cr, 0}}, []byte{cr, 0, 0}},
		{[][]byte{{cr}, {}, {lf}}, []byte{cr, 0, lf}},
		{[][]byte{{'a', cr}, {cr, lf}, nil, {0, cr}}, []byte{'a', cr, 0, cr, lf, 0, cr, 0}},
		{[][]byte{nil, {}, nil}, nil},
	} {
		var out []byte
		for _, part := range x.parts {
			out = append(out, nvt.Encode(part, false)...)
		}
		if !bytes.Equal(out, x.want) {
			t.Errorf("% x goes out as % x, not as % x", x.parts, out, x.want)
		}
		mustReturn(t, x.parts...)
	}
}

// P8.2: what goes out, with layer 6's doubling, says what was said by layer 7,
// and what comes in byte by byte, as layer 5's data, is what was.
func TestWithTheLayersBelow(t *testing.T) {
	for n := range 5 {
		eachRow(n, func(b []byte) {
			for _, raw := range ways {
				wire := emit.Data(nvt.Encode(b, raw))
				text, err := gram.Text(wire, raw)
				if err != nil || !bytes.Equal(text, b) || gram.Rest(wire, raw) != 0 {
					t.Fatalf("Text of % x, raw: %v: % x, %v", wire, raw, text, err)
				}
				var d nvt.In
				var got []byte
				tokens, _ := iac.All(wire)
				for _, x := range tokens {
					if d.Next(byte(x.Code), raw) {
						got = append(got, byte(x.Code))
					}
				}
				if !bytes.Equal(got, b) {
					t.Fatalf("% x, raw: %v, came in as % x", b, raw, got)
				}
			}
		})
	}
}

// someBytes is bytes by chance, most of them those on which the rules hang.
func someBytes(r *rand.Rand, n int) []byte {
	b := make([]byte, n)
	for i := range b {
		b[i] = few[r.Intn(3)]
		if r.Intn(4) == 0 {
			b[i] = byte(r.Intn(256))
		}
	}
	return b
}

// P8.1, P8.2: rows by chance, in parts by chance, with raw turned by chance.
func TestByChance(t *testing.T) {
	r := rand.New(rand.NewSource(8))
	for range 2000 {
		var parts [][]byte
		for range r.Intn(8) {
			parts = append(parts, someBytes(r, r.Intn(12)))
		}
		b := slices.Concat(parts...)
		holds(t, b)
		mustReturn(t, parts...)
		raws := make([]bool, len(b))
		for i := range raws {
			raws[i] = r.Intn(3) == 0
		}
		mustMix(t, b, raws)
	}
}

// No two answers share memory with each other or with what was given.
func TestAnswersApart(t *testing.T) {
	for _, b := range [][]byte{{cr, 0, 'a', cr, lf, 0, ff}, []byte("plain"), {cr}, {cr, 0}, {0}, {lf}} {
		for _, raw := range ways {
			theirs, all := given(b)
			out, in := modelOut(slices.Clone(b), raw), modelIn(slices.Clone(b), raw)
			answers := [][]byte{nvt.Encode(theirs, raw), nvt.Decode(theirs, raw), nvt.Encode(theirs, raw), nvt.Decode(theirs, raw)}
			wants := [][]byte{out, in, out, in}
			scribble(all)
			for i := range answers {
				for j := i; j < len(answers); j++ {
					if !bytes.Equal(answers[j], wants[j]) {
						t.Fatalf("% x, raw: %v: answer %d is changed: % x", b, raw, j, answers[j])
					}
				}
				scribble(answers[i])
			}
		}
	}
}

// No bytes make a call panic, or are told otherwise than they should be.
func FuzzHolds(f *testing.F) {
	f.Add([]byte{cr, 0, 0, cr, lf, cr}, []byte{1, 0, 1}, 2)
	f.Add([]byte{cr, cr, 0, 0}, []byte{0}, 1)
	f.Add([]byte("plain\r\n"), []byte{}, 0)
	f.Fuzz(func(t *testing.T, b, turned []byte, at int) {
		holds(t, b)
		at = min(max(at, 0), len(b))
		mustReturn(t, b[:at], b[at:])
		raws := make([]bool, len(b))
		for i := range min(len(b), len(turned)) {
			raws[i] = turned[i]&1 == 1
		}
		mustMix(t, b, raws)
	})
}
