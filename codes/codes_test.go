package codes_test

import (
	"math"
	"slices"
	"strconv"
	"strings"
	"testing"

	"truchman/codes"
)

// coded is what one has, and the number and the text that it should have.
type coded struct {
	is, number int
	text       string
}

// commands is what the chapter tells of the commands.
func commands() []coded {
	return []coded{
		{codes.SE, 240, "se"},
		{codes.NOP, 241, "nop"},
		{codes.DM, 242, "dm"},
		{codes.BRK, 243, "brk"},
		{codes.IP, 244, "ip"},
		{codes.AO, 245, "ao"},
		{codes.AYT, 246, "ayt"},
		{codes.EC, 247, "ec"},
		{codes.EL, 248, "el"},
		{codes.GA, 249, "ga"},
		{codes.SB, 250, "sb"},
		{codes.WILL, 251, "will"},
		{codes.WONT, 252, "wont"},
		{codes.DO, 253, "do"},
		{codes.DONT, 254, "dont"},
		{codes.IAC, 255, "iac"},
	}
}

// options is what the chapter tells of the options that have words.
func options() []coded {
	return []coded{
		{codes.Binary, 0, "binary"},
		{codes.Echo, 1, "echo"},
		{codes.Sga, 3, "sga"},
		{codes.Status, 5, "status"},
		{codes.Mark, 6, "mark"},
		{codes.Ttype, 24, "ttype"},
		{codes.Naws, 31, "naws"},
		{codes.Linemode, 34, "linemode"},
	}
}

// textOf is the text of a number of the list, or the empty one.
func textOf(list []coded, number int) string {
	for _, c := range list {
		if c.number == number {
			return c.text
		}
	}
	return ""
}

// numberOf is the number of a text of the list.
func numberOf(list []coded, text string) (int, bool) {
	for _, c := range list {
		if c.text == text {
			return c.number, true
		}
	}
	return 0, false
}

// nameOf is the name that a number should have as an option.
func nameOf(n int) string {
	if word := textOf(options(), n); word != "" || n < 0 || n > 255 {
		return word
	}
	return strconv.Itoa(n)
}

// optionOf is the option that a name should be of. It holds the name against
// the figures of each option, so that nothing hangs on how figures are read.
func optionOf(name string) (int, bool) {
	if n, is := numberOf(options(), name); is {
		return n, true
	}
	for n := range 256 {
		if strconv.Itoa(n) == name {
			return n, true
		}
	}
	return 0, false
}

// numbers is from below 0 to above 255, and those which a byte, or a difference
// from one, could be mistaken in.
func numbers() []int {
	list := []int{
		math.MinInt, math.MinInt + 240, math.MinInt + 255, math.MinInt32, math.MinInt64 + 1,
		math.MaxInt, math.MaxInt - 240, math.MaxInt - 15, math.MaxInt32, math.MaxUint32 + 240,
		1<<16 + 251, 1<<32 + 1, 1<<32 + 241, 1<<32 + 253,
	}
	for n := -600; n <= 1200; n++ {
		list = append(list, n)
	}
	return list
}

// texts is each text of at most that many of the letters.
func texts(letters string, most int) []string {
	list := []string{""}
	from := 0
	for range most {
		to := len(list)
		for _, t := range list[from:to] {
			for i := range len(letters) {
				list = append(list, t+letters[i:i+1])
			}
		}
		from = to
	}
	return list
}

// near is what is nearly a text, and isn't it.
func near(text string) []string {
	list := []string{
		text + "x", text + " ", text + "\n", text + "\x00", text + text, text + "1", text + "é",
		" " + text, "x" + text, "\x00" + text, "\xff" + text, "-" + text, "\"" + text + "\"",
		strings.ToUpper(text), strings.ToUpper(text[:1]) + text[1:],
		text[:len(text)-1], text[1:], text[1:] + text[:1],
	}
	return slices.DeleteFunc(list, func(t string) bool { return t == text })
}

func TestNumbersOfCommandsAndOptions(t *testing.T) {
	for _, c := range slices.Concat(commands(), options()) {
		if c.is != c.number {
			t.Errorf("%s is %d, not %d", c.text, c.is, c.number)
		}
	}
}

func TestExamples(t *testing.T) {
	if verb, is := codes.Answer(codes.DO, true); verb != codes.WILL || !is {
		t.Errorf("Answer of DO, to agree: %d, %v", verb, is)
	}
	if name := codes.Name(24); name != "ttype" {
		t.Errorf("Name of 24: %q", name)
	}
	if name := codes.Name(25); name != "25" {
		t.Errorf("Name of 25: %q", name)
	}
}

func TestWordOfEachNumber(t *testing.T) {
	for _, n := range numbers() {
		if got, want := codes.Word(n), textOf(commands(), n); got != want {
			t.Errorf("Word(%d): %q, not %q", n, got, want)
		}
	}
}

// isCode holds a call of Code against the list of the commands.
func isCode(t *testing.T, word string) {
	t.Helper()
	want, there := numberOf(commands(), word)
	if got, is := codes.Code(word); got != want || is != there {
		t.Errorf("Code(%.40q): %d, %v, not %d, %v", word, got, is, want, there)
	}
}

func TestCodeOfEachWord(t *testing.T) {
	for _, c := range commands() {
		if got, is := codes.Code(c.text); got != c.number || !is {
			t.Errorf("Code(%q): %d, %v, not %d", c.text, got, is, c.number)
		}
	}
}

func TestCodeOfWhatIsNoWord(t *testing.T) {
	for _, c := range commands() {
		for _, word := range near(c.text) {
			isCode(t, word)
		}
	}
	for _, word := range []string{
		"", " ", "\x00", "SE", "Se", "sE", "DO", "Dont", "WILL", "IAC", "sex", "do nt", "don't", "won't",
		"willwont", "will do", "240", "255", "0", "eof", "susp", "abort", "eor", "data", "plain", "verb", "sub",
		"binary", "echo", "linemode", "\u017fe", "d\u043e", strings.Repeat("do", 5000),
	} {
		isCode(t, word)
		if _, is := codes.Code(word); is {
			t.Errorf("Code(%.40q) is one", word)
		}
	}
}

// TestCodeOfShortTexts asks for all texts of the letters that words have.
func TestCodeOfShortTexts(t *testing.T) {
	for _, word := range texts("abcdegiklmnoprstwyDO ", 4) {
		isCode(t, word)
	}
}

func TestKindsOfEachNumber(t *testing.T) {
	kinds := []struct {
		name string
		ask  func(int) bool
		are  []int
	}{
		{"Plain", codes.Plain, []int{241, 242, 243, 244, 245, 246, 247, 248, 249}},
		{"Verb", codes.Verb, []int{251, 252, 253, 254}},
		{"For", codes.For, []int{251, 253}},
		{"Own", codes.Own, []int{251, 252}},
	}
	for _, k := range kinds {
		for _, n := range numbers() {
			if got, want := k.ask(n), slices.Contains(k.are, n); got != want {
				t.Errorf("%s(%d): %v, not %v", k.name, n, got, want)
			}
		}
	}
}

func TestAnswerOfEachVerb(t *testing.T) {
	for _, a := range []struct {
		verb         int
		agree, other int
	}{
		{251, 253, 254}, // WILL: DO or DONT
		{252, 253, 254}, // WONT: DO or DONT
		{253, 251, 252}, // DO: WILL or WONT
		{254, 251, 252}, // DONT: WILL or WONT
	} {
		if got, is := codes.Answer(a.verb, true); got != a.agree || !is {
			t.Errorf("Answer(%d, true): %d, %v, not %d", a.verb, got, is, a.agree)
		}
		if got, is := codes.Answer(a.verb, false); got != a.other || !is {
			t.Errorf("Answer(%d, false): %d, %v, not %d", a.verb, got, is, a.other)
		}
	}
}

func TestAnswerOfWhatIsNoVerb(t *testing.T) {
	for _, n := range numbers() {
		if n >= 251 && n <= 254 {
			continue
		}
		for _, agree := range []bool{true, false} {
			if got, is := codes.Answer(n, agree); got != 0 || is {
				t.Errorf("Answer(%d, %v): %d, %v", n, agree, got, is)
			}
		}
	}
}

func TestNameOfEachNumber(t *testing.T) {
	for _, n := range numbers() {
		if got, want := codes.Name(n), nameOf(n); got != want {
			t.Errorf("Name(%d): %q, not %q", n, got, want)
		}
	}
	for _, n := range []int{-1, 256} {
		if got := codes.Name(n); got != "" {
			t.Errorf("Name(%d), which is no option: %q", n, got)
		}
	}
}

// isOption holds a call of Option against what the name should be of.
func isOption(t *testing.T, name string) {
	t.Helper()
	want, there := optionOf(name)
	if got, is := codes.Option(name); got != want || is != there {
		t.Errorf("Option(%.40q): %d, %v, not %d, %v", name, got, is, want, there)
	}
}

func TestOptionOfEachName(t *testing.T) {
	for n := range 256 {
		if got, is := codes.Option(nameOf(n)); got != n || !is {
			t.Errorf("Option(%q): %d, %v, not %d", nameOf(n), got, is, n)
		}
	}
}

// TestOptionOfFigures: an option that has a word has its figures, too.
func TestOptionOfFigures(t *testing.T) {
	for n := range 256 {
		if got, is := codes.Option(strconv.Itoa(n)); got != n || !is {
			t.Errorf("Option(%d, in figures): %d, %v", n, got, is)
		}
	}
}

func TestOptionOfWhatIsNoName(t *testing.T) {
	for _, o := range options() {
		for _, name := range near(o.text) {
			isOption(t, name)
		}
	}
	for _, name := range []string{
		"", " ", "\x00", "-", "+", ".", "BINARY", "Echo", "eCHO", "sgas", "tty", "ttype 1", "line mode", "binary\n",
		"00", "000", "01", "007", "024", "025", "0255", "00255", "0000000000000000000000001",
		"+0", "+1", "+25", "-0", "-1", "-25", "--1", "+-1", "- 1", "1-",
		"256", "257", "260", "300", "511", "512", "999", "1000", "2550", "65536", "65537",
		"4294967296", "4294967297", "18446744073709551616", "18446744073709551617", "9223372036854775807",
		"9223372036854775808", "-9223372036854775808", "340282366920938463463374607431768211457",
		strings.Repeat("1", 400), strings.Repeat("0", 5000), strings.Repeat("0", 5000) + "1", strings.Repeat("9", 100000),
		" 1", "1 ", "1\n", "\t1", "1\x00", "\x001", "1.", "1.0", ".1", "1e0", "1e2", "0x1", "0b1", "0o1", "1_0", "_1", "1,0",
		"a", "f", "1f", "ff", "\u0661", "\uff11", "\xff", "1\xff", "will", "do", "se", "nop", "iac",
	} {
		isOption(t, name)
		if _, is := codes.Option(name); is {
			t.Errorf("Option(%.40q) is one", name)
		}
	}
}

func TestOptionOfNumbersInFigures(t *testing.T) {
	for _, n := range numbers() {
		isOption(t, strconv.Itoa(n))
	}
}

// TestOptionOfShortTexts asks for all texts of figures and of what may stand
// beside figures in a number.
func TestOptionOfShortTexts(t *testing.T) {
	for _, name := range texts("0123456789+-_ .ex", 4) {
		isOption(t, name)
	}
}

// TestNamesAreTheirOwn goes there and back: each name is taken back to its
// option, each word to its command (P4.2).
func TestNamesAreTheirOwn(t *testing.T) {
	for n := range 256 {
		if got, is := codes.Option(codes.Name(n)); got != n || !is {
			t.Errorf("Option(Name(%d)): %d, %v", n, got, is)
		}
	}
	for n := 240; n <= 255; n++ {
		if got, is := codes.Code(codes.Word(n)); got != n || !is {
			t.Errorf("Code(Word(%d)): %d, %v", n, got, is)
		}
	}
}

// TestNamesAreNoOthers: no two options have one name, no two commands one
// word, and no name or word is empty (P4.2).
func TestNamesAreNoOthers(t *testing.T) {
	names := map[string]int{"": -1}
	for n := range 256 {
		name := codes.Name(n)
		if other, is := names[name]; is {
			t.Errorf("Name: %q of %d and of %d", name, n, other)
		}
		names[name] = n
	}
	words := map[string]int{"": -1}
	for n := 240; n <= 255; n++ {
		word := codes.Word(n)
		if other, is := words[word]; is {
			t.Errorf("Word: %q of %d and of %d", word, n, other)
		}
		words[word] = n
	}
}

// TestOnlyItsNameIsTakenBack: of all texts that are asked only an option's word
// and figures are taken to it, and only a command's word to the command (P4.2).
func TestOnlyItsNameIsTakenBack(t *testing.T) {
	asked := slices.Concat(texts("0123456789", 3), texts("abcdegiklmnoprstwy", 4))
	for _, c := range slices.Concat(commands(), options()) {
		asked = append(asked, c.text, c.text+c.text, c.text+"s", strings.ToUpper(c.text), strconv.Itoa(c.number))
	}
	for _, text := range asked {
		if n, is := codes.Option(text); is && text != codes.Name(n) && text != strconv.Itoa(n) {
			t.Errorf("Option(%q): %d, whose name it isn't", text, n)
		}
		if n, is := codes.Code(text); is && text != codes.Word(n) {
			t.Errorf("Code(%q): %d, whose word it isn't", text, n)
		}
	}
}
