package cells_test

import (
	"bytes"
	"errors"
	"math"
	"math/rand"
	"slices"
	"strings"
	"testing"

	"truchman/api"
	"truchman/cells"
)

// sizes is screens of one cell, one column, one row, and a few of more, up to
// such as have a tab's column last, or one beside it.
func sizes() []at {
	return []at{{1, 1}, {1, 2}, {1, 4}, {2, 1}, {4, 1}, {2, 2}, {4, 3}, {7, 2}, {8, 2}, {9, 2}, {10, 3}, {16, 1}, {17, 3}, {25, 2}}
}

// every is all 256 bytes.
func every() []byte {
	list := make([]byte, 256)
	for c := range list {
		list[c] = byte(c)
	}
	return list
}

// isShown tells whether a byte should stand in a cell.
func isShown(c byte) bool { return c >= 32 && c <= 126 }

// P19.1: New of columns, of rows, and of both that a screen can't have.
func TestNewBeyond(t *testing.T) {
	mustRefuse := func(cols, rows int) {
		t.Helper()
		if s, err := cells.New(cols, rows); s != nil || !errors.Is(err, api.ErrRange) {
			t.Errorf("New(%d, %d): %v, %v", cols, rows, s, err)
		}
	}
	for _, n := range beyond() {
		for _, other := range []int{1, 2, 24, 80, most - 1, most} {
			mustRefuse(n, other)
			mustRefuse(other, n)
		}
		for _, other := range beyond() {
			mustRefuse(n, other)
		}
	}
}

// P19.1: a new screen has so many columns and rows, all of them blank, and its
// cursor at 0.
func TestNew(t *testing.T) {
	if api.MaxSize != most {
		t.Fatalf("MaxSize is %d", api.MaxSize)
	}
	for n := 1; n <= most; n++ {
		for _, size := range []at{{n, 1}, {1, n}, {n, n}, {n, most}, {most, n}, {n, 24}, {80, n}} {
			s := newScreen(t, size.col, size.row)
			s.mustStand(0, make([]string, size.row)...)
			if got := s.is.Far(place(size.col-1, size.row-1)); got != size.col+size.row-2 {
				t.Fatalf("Far of the last cell of %v: %d", size, got)
			}
			if got := s.is.Far(place(size.col, 0)); got != -1 {
				t.Fatalf("Far beyond the last column of %v: %d", size, got)
			}
			if got := s.is.Far(place(0, size.row)); got != -1 {
				t.Fatalf("Far beyond the last row of %v: %d", size, got)
			}
		}
	}
}

// P19.1: two screens have nothing of each other.
func TestScreensApart(t *testing.T) {
	a, b := newScreen(t, 5, 2), newScreen(t, 5, 2)
	a.write("abc")
	b.write("d")
	a.resize(2, 1)
	b.write("\ne")
	a.mustStand(1, "ab")
	b.mustStand(2+1i, "d", " e")
	a.holds()
	b.holds()
}

// P19.1: the chapter's example.
func TestExample(t *testing.T) {
	s := newScreen(t, 4, 2)
	s.write("abcde")
	s.mustStand(1+1i, "abcd", "e")
}

// written is a text that is written on a new screen, and how it should stand.
type written struct {
	cols, rows int
	text       string
	cursor     complex128
	lines      []string
}

// mustWrite writes texts, and holds what stands against what is written down.
func mustWrite(t *testing.T, list ...written) {
	t.Helper()
	for _, row := range list {
		s := newScreen(t, row.cols, row.rows)
		s.write(row.text)
		s.mustStand(row.cursor, row.lines...)
	}
}

// P19.1: what each kind of byte does, written down.
func TestWrittenDown(t *testing.T) {
	mustWrite(t,
		written{4, 2, "", 0, []string{"", ""}},
		written{4, 2, "a", 1, []string{"a", ""}},
		written{4, 2, " ", 1, []string{"", ""}},
		written{4, 2, "~", 1, []string{"~", ""}},
		written{4, 2, "abc", 3, []string{"abc", ""}},
		written{4, 2, "abcd", 1i, []string{"abcd", ""}},
		written{4, 2, "abcdefg", 3 + 1i, []string{"abcd", "efg"}},
		written{4, 2, "abcdefgh", 1i, []string{"efgh", ""}},
		written{4, 2, "abcdefghi", 1 + 1i, []string{"efgh", "i"}},
		written{4, 2, "abcdefghijklm", 1 + 1i, []string{"ijkl", "m"}},
		written{4, 2, "ab\b", 1, []string{"ab", ""}},
		written{4, 2, "ab\bc", 2, []string{"ac", ""}},
		written{4, 2, "ab\b\b\b\b", 0, []string{"ab", ""}},
		written{4, 2, "ab\b ", 2, []string{"a", ""}},
		written{4, 2, "abcd\b", 1i, []string{"abcd", ""}},
		written{4, 2, "abcd\b\be", 1 + 1i, []string{"abcd", "e"}},
		written{4, 2, "\t", 3, []string{"", ""}},
		written{4, 2, "\t\t\ta", 1i, []string{"   a", ""}},
		written{4, 2, "ab\nc", 3 + 1i, []string{"ab", "  c"}},
		written{4, 2, "ab\nc\nd", 1i, []string{"   d", ""}},
		written{4, 2, "a\nb\nc", 3 + 1i, []string{" b", "  c"}},
		written{4, 2, "ab\rc", 1, []string{"cb", ""}},
		written{4, 2, "ab\r\r", 0, []string{"ab", ""}},
		written{4, 2, "ab\r\nc", 1 + 1i, []string{"ab", "c"}},
		written{4, 2, "abcde\rf", 1 + 1i, []string{"abcd", "f"}},
		written{4, 2, "ab\n\n\n", 2 + 1i, []string{"", ""}},
		written{4, 2, "a\r\nb\r\nc", 1 + 1i, []string{"b", "c"}},
		written{4, 2, "a\r\nb\r\n", 1i, []string{"b", ""}},
		written{4, 2, "abcde\f", 0, []string{"", ""}},
		written{4, 2, "abcde\ff", 1, []string{"f", ""}},
		written{4, 2, "a\x00b\x07c\x0b\x0e\x1b\x1f\x7f\x80\xa0\xff", 3, []string{"abc", ""}},
	)
}

// P19.1: where tabs go, written down.
func TestTabsWrittenDown(t *testing.T) {
	mustWrite(t,
		written{20, 1, "\tb", 9, []string{"        b"}},
		written{20, 1, "a\tb", 9, []string{"a       b"}},
		written{20, 1, "1234567\tb", 9, []string{"1234567 b"}},
		written{20, 1, "12345678\tb", 17, []string{"12345678        b"}},
		written{20, 1, "\t\t", 16, []string{""}},
		written{20, 1, "\t\t\t", 19, []string{""}},
		written{20, 1, "\t\t\t\t", 19, []string{""}},
		written{20, 2, "\t\t\t\tab", 1 + 1i, []string{"                   a", "b"}},
		written{8, 1, "\t", 7, []string{""}},
		written{9, 1, "\t", 8, []string{""}},
		written{9, 1, "\t\t", 8, []string{""}},
	)
}

// P19.1: screens of one column, one row and one cell, written down.
func TestNarrowWrittenDown(t *testing.T) {
	mustWrite(t,
		written{1, 3, "ab", 2i, []string{"a", "b", ""}},
		written{1, 3, "abcd", 2i, []string{"c", "d", ""}},
		written{1, 3, "a\b\tb\rc", 2i, []string{"b", "c", ""}},
		written{3, 1, "abc", 0, []string{""}},
		written{3, 1, "abcd", 1, []string{"d"}},
		written{3, 1, "ab\n", 2, []string{""}},
		written{3, 1, "ab\b\n", 1, []string{""}},
		written{1, 1, "a", 0, []string{""}},
		written{1, 1, "abc\t\b\n\r", 0, []string{""}},
	)
}

// P19.1: each byte of all 256, alone, with the cursor at each place of screens
// that have something in each cell up to its row's end.
func TestEachByte(t *testing.T) {
	for _, size := range sizes() {
		for _, cursor := range places(size.col, size.row) {
			for _, c := range every() {
				s := filled(t, size.col, size.row, cursor)
				was := s.is.Lines()
				s.put(string([]byte{c}))
				if !isShown(c) && !slices.Contains([]byte{8, 9, 10, 12, 13}, c) {
					s.mustStand(place(cursor.col, cursor.row), was...)
				}
			}
		}
	}
}

// P19.1: each byte from 32 to 126 stands in the cursor's cell, and in no other
// one, and the cursor goes one to the right.
func TestShown(t *testing.T) {
	for c := byte(32); c <= 126; c++ {
		for _, cursor := range places(4, 3) {
			s := filled(t, 5, 4, cursor)
			want := s.is.Lines()
			row := []byte(want[cursor.row])
			row[cursor.col] = c
			want[cursor.row] = string(row)
			s.put(string([]byte{c}))
			s.mustStand(place(cursor.col+1, cursor.row), want...)
		}
	}
}

// P19.1: all bytes that aren't told change nothing, alone and together.
func TestOthers(t *testing.T) {
	others := slices.DeleteFunc(every(), func(c byte) bool {
		return isShown(c) || slices.Contains([]byte{8, 9, 10, 12, 13}, c)
	})
	if len(others) != 256-95-5 {
		t.Fatalf("there are %d others", len(others))
	}
	for _, size := range sizes() {
		for _, cursor := range places(size.col, size.row) {
			s := filled(t, size.col, size.row, cursor)
			was := s.is.Lines()
			s.write(string(others))
			s.mustStand(place(cursor.col, cursor.row), was...)
		}
	}
}

// P19.1: 8 goes one to the left, and stays in column 0 of each row.
func TestBack(t *testing.T) {
	for _, cursor := range places(12, 3) {
		s := filled(t, 12, 3, cursor)
		was := s.is.Lines()
		for n := 1; n < 15; n++ {
			s.put("\b")
			s.mustStand(place(max(cursor.col-n, 0), cursor.row), was...)
		}
	}
}

// P19.1: 9 goes from each column of a screen of each width to the next one that
// is a multiple of 8, or to the last one, where it stays.
func TestTab(t *testing.T) {
	for cols := 1; cols <= most; cols++ {
		s := newScreen(t, cols, 1)
		for col := range cols {
			s.is.Put(13)
			s.is.Write(bytes.Repeat([]byte{'x'}, col))
			want := min((col|7)+1, cols-1)
			s.is.Put(9)
			if got := s.is.Cursor(); got != place(want, 0) {
				t.Fatalf("from column %d of %d: %v, not %d", col, cols, got, want)
			}
			if got := s.is.Line(0); got != strings.Repeat("x", col) {
				t.Fatalf("from column %d of %d: the line is %q", col, cols, got)
			}
		}
	}
	s := newScreen(t, most, 2)
	s.write(strings.Repeat("\t", most/8-1))
	s.mustStand(192, "", "")
	s.write("\t")
	s.mustStand(most-1, "", "")
	s.write("\t\t\t")
	s.mustStand(most-1, "", "")
	s.write("a\tb")
	s.mustStand(9+1i, strings.Repeat(" ", most-1)+"a", "        b")
}

// P19.1: 9 in each row: the row stays, and what stands there.
func TestTabInRows(t *testing.T) {
	for _, cursor := range places(19, 3) {
		s := filled(t, 19, 3, cursor)
		was := s.is.Lines()
		want := []int{8, 8, 8, 8, 8, 8, 8, 8, 16, 16, 16, 16, 16, 16, 16, 16, 18, 18, 18}[cursor.col]
		s.put("\t")
		s.mustStand(place(want, cursor.row), was...)
	}
}

// P19.1: 10 goes to the next row, in the same column; in the last row all rows
// go up.
func TestNextRow(t *testing.T) {
	for rows := 1; rows <= 4; rows++ {
		for _, cursor := range places(5, rows) {
			s := filled(t, 5, rows, cursor)
			was := s.is.Lines()
			s.put("\n")
			if cursor.row < rows-1 {
				s.mustStand(place(cursor.col, cursor.row+1), was...)
				continue
			}
			for n := range rows + 2 {
				up := make([]string, rows)
				copy(up, was[min(n+1, rows):])
				s.mustStand(place(cursor.col, rows-1), up...)
				s.put("\n")
			}
		}
	}
}

// P19.1: 13 goes to column 0 of the same row.
func TestFront(t *testing.T) {
	for _, cursor := range places(11, 4) {
		s := filled(t, 11, 4, cursor)
		was := s.is.Lines()
		s.put("\r")
		s.mustStand(place(0, cursor.row), was...)
		s.put("\r")
		s.mustStand(place(0, cursor.row), was...)
	}
}

// P19.1: 12 lets all cells be blank, and the cursor stand at 0.
func TestForm(t *testing.T) {
	for _, size := range sizes() {
		for _, cursor := range places(size.col, size.row) {
			s := filled(t, size.col, size.row, cursor)
			s.put("\f")
			s.mustStand(0, make([]string, size.row)...)
			if cols, rows := s.is.Size(); cols != size.col || rows != size.row {
				t.Fatalf("the size is %d, %d, not %v", cols, rows, size)
			}
			s.put("\f!")
		}
	}
}

// P19.1: behind the last column the cursor goes to the beginning of the next
// row; in the last one all rows go up.
func TestLastColumn(t *testing.T) {
	for _, size := range sizes() {
		for row := range size.row {
			s := filled(t, size.col, size.row, at{size.col - 1, row})
			want := s.is.Lines()
			want[row] = want[row][:size.col-1] + "!"
			s.put("!")
			if row < size.row-1 {
				s.mustStand(place(0, row+1), want...)
				continue
			}
			s.mustStand(place(0, row), append(want[1:], "")...)
		}
	}
}

// P19.1: more than a screen holds: the last rows are left, whatever the width.
func TestGoesUp(t *testing.T) {
	text := []byte(strings.Repeat("the quick brown fox jumps over the lazy dog, ", 9))
	for cols := 1; cols <= 60; cols++ {
		for rows := 1; rows <= 5; rows++ {
			s := newScreen(t, cols, rows)
			s.is.Write(text)
			all := slices.Collect(slices.Chunk(text, cols))
			if len(text)%cols == 0 {
				all = append(all, nil) // the last row is full: the cursor stands in the next one
			}
			var want []string
			for _, line := range all[max(len(all)-rows, 0):] {
				want = append(want, strings.TrimRight(string(line), " "))
			}
			for len(want) < rows {
				want = append(want, "")
			}
			s.mustStand(place(len(text)%cols, min(len(all), rows)-1), want...)
		}
	}
}

// P19.1: screens of one column, one row and one cell, byte by byte.
func TestOneColumnOneRowOneCell(t *testing.T) {
	text := "ab\bc\td\ne\rf\bg \x00\x7f\xffh\fij\tklmnop\b\b\n\n\tq"
	for n := 1; n <= 12; n++ {
		newScreen(t, 1, n).put(text + text)
		newScreen(t, n, 1).put(text + text)
	}
	s := newScreen(t, 1, 1)
	for _, c := range every() {
		s.put(string([]byte{c}))
		s.mustStand(0, "")
	}
}

// P19.1: the greatest screen, filled, and gone beyond.
func TestGreatest(t *testing.T) {
	s := newScreen(t, most, most)
	for row := range most {
		s.is.Write([]byte(letters(most, row)))
		for i := range most {
			s.m.put(letters(most, row)[i])
		}
	}
	s.holds()
	if got := s.is.Lines(); got[0] != letters(most, 1) || got[most-2] != letters(most, most-1) || got[most-1] != "" {
		t.Fatalf("the lines are %q", got)
	}
	s.write("!\b\b?")
	s.holdsFar()
	s.write(strings.Repeat("\n", most-2) + "\t")
	s.write("\n\n")
	s.resize(most, most-1)
	s.write("\f.")
}

// texts is texts of all kinds of bytes, to be written in parts.
func texts() []string {
	return []string{
		"abcdefghijklmnopqrstuvwxyz",
		"ab\bc\td\ne\rf\fgh\x00i\x7fj\xffk l\r\nm",
		"\t\t\tend\r\n\tx\b\b\b\b\b\b\by\n\n\nz",
		"  a  b  \r\n  c  \b\b  \r    \n",
		strings.Repeat("x\n", 12),
		string(every()[:40]),
	}
}

// P19.2: what is written in two and three parts stands as what is written at
// once, and so does what is put byte by byte.
func TestParts(t *testing.T) {
	for _, text := range texts() {
		for _, size := range sizes() {
			once := newScreen(t, size.col, size.row)
			once.write(text)
			lines, cursor := once.is.Lines(), once.is.Cursor()
			for i := 0; i <= len(text); i++ {
				for j := i; j <= len(text); j++ {
					s, err := cells.New(size.col, size.row)
					if err != nil {
						t.Fatalf("New: %v", err)
					}
					for _, part := range []string{text[:i], text[i:j], text[j:]} {
						s.Write([]byte(part))
					}
					if got := s.Lines(); !slices.Equal(got, lines) || s.Cursor() != cursor {
						t.Fatalf("%q in parts up to %d and %d, on %v: %q, %v, not %q, %v", text, i, j, size, got, s.Cursor(), lines, cursor)
					}
				}
			}
			newScreen(t, size.col, size.row).put(text)
		}
	}
}

// P19.2: Write of nothing changes nothing.
func TestWriteOfNothing(t *testing.T) {
	for _, size := range sizes() {
		for _, cursor := range places(size.col, size.row) {
			s := filled(t, size.col, size.row, cursor)
			was := s.is.Lines()
			s.is.Write(nil)
			s.is.Write([]byte{})
			s.write("")
			s.mustStand(place(cursor.col, cursor.row), was...)
		}
	}
}

// P19.1: Line is without the blanks at its end, but with all others.
func TestLine(t *testing.T) {
	for _, row := range []struct{ text, want string }{
		{"", ""},
		{" ", ""},
		{"         ", ""},
		{"a ", "a"},
		{"a        ", "a"},
		{" a", " a"},
		{"        a", "        a"},
		{"  a  b   ", "  a  b"},
		{"a b c d e", "a b c d e"},
		{"         \ra", "a"},
		{"abc\b ", "ab"},
		{"abc\b\b\b   ", ""},
		{"abc\r ", " bc"},
		{"abc\b\b ", "a c"},
		{"a\t", "a"},
		{"a\tb", "a       b"},
		{"_\xa0\t\x00", "_"},
	} {
		s := newScreen(t, 10, 2)
		s.write(row.text)
		if got := s.is.Line(0); got != row.want {
			t.Errorf("%q: %q, not %q", row.text, got, row.want)
		}
	}
}

// P19.1: Line of rows that there aren't, on screens that are full.
func TestLineBeyond(t *testing.T) {
	for _, size := range sizes() {
		s := filled(t, size.col, size.row, at{size.col - 1, size.row - 1})
		for _, row := range slices.Concat(beyond()[1:], []int{size.row, size.row + 1, -size.row, 2 * size.row}) {
			want := ""
			if row >= 0 && row < size.row {
				want = letters(size.col, row)
			}
			if got := s.is.Line(row); got != want {
				t.Fatalf("Line(%d) of %v: %q, not %q", row, size, got, want)
			}
		}
	}
}

// P19.1: Lines is a new list each time, that nothing changes later on.
func TestLinesApart(t *testing.T) {
	s := filled(t, 5, 3, at{2, 2})
	want := s.is.Lines()
	if len(want) != 3 {
		t.Fatalf("%d lines of 3 rows", len(want))
	}
	first, second := s.is.Lines(), s.is.Lines()
	all := first[:cap(first)]
	for i := range all {
		all[i] = "?"
	}
	if !slices.Equal(second, want) {
		t.Fatalf("they are %q, not %q", second, want)
	}
	s.mustStand(2+2i, want...)
	line := s.is.Line(0)
	s.write("\r??\n\n\n\f")
	if !slices.Equal(second, want) || line != want[0] {
		t.Fatalf("they are %q, and %q, not %q", second, line, want)
	}
	s.holds()
}

// P19.1: Resize of columns, of rows, and of both that a screen can't have
// changes nothing.
func TestResizeBeyond(t *testing.T) {
	s := filled(t, 6, 4, at{3, 2})
	want := s.is.Lines()
	mustRefuse := func(cols, rows int) {
		t.Helper()
		if err := s.is.Resize(cols, rows); !errors.Is(err, api.ErrRange) {
			t.Fatalf("Resize(%d, %d): %v", cols, rows, err)
		}
		s.mustStand(3+2i, want...)
		if cols, rows := s.is.Size(); cols != 6 || rows != 4 {
			t.Fatalf("the size is %d, %d", cols, rows)
		}
	}
	for _, n := range beyond() {
		for _, other := range []int{1, 3, 6, 80, most} {
			mustRefuse(n, other)
			mustRefuse(other, n)
		}
		for _, other := range beyond() {
			mustRefuse(n, other)
		}
	}
	s.put("!\n?\nx\n")
	s.holdsFar()
}

// P19.1: Resize, written down.
func TestResizeWrittenDown(t *testing.T) {
	for _, row := range []struct {
		text       string // on 4 columns and 3 rows
		cols, rows int
		cursor     complex128
		lines      []string
	}{
		{"", 1, 1, 0, []string{""}},
		{"abcdefghi", 4, 3, 1 + 2i, []string{"abcd", "efgh", "i"}},
		{"abcdefghi", 6, 5, 1 + 2i, []string{"abcd", "efgh", "i", "", ""}},
		{"abcdefghi", 6, 3, 1 + 2i, []string{"abcd", "efgh", "i"}},
		{"abcdefghi", 4, 4, 1 + 2i, []string{"abcd", "efgh", "i", ""}},
		{"abcdefghi", 2, 3, 1 + 2i, []string{"ab", "ef", "i"}},
		{"abcdefghi", 1, 3, 2i, []string{"a", "e", "i"}},
		{"abcdefghi", 4, 2, 1 + 1i, []string{"abcd", "efgh"}},
		{"abcdefghi", 4, 1, 1, []string{"abcd"}},
		{"abcdefghi", 1, 1, 0, []string{"a"}},
		{"abcdefghi", 2, 5, 1 + 2i, []string{"ab", "ef", "i", "", ""}},
		{"abcdefghi", 9, 2, 1 + 1i, []string{"abcd", "efgh"}},
		{"abcdefghijk", 4, 3, 3 + 2i, []string{"abcd", "efgh", "ijk"}},
		{"abcdefghijk", 3, 3, 2 + 2i, []string{"abc", "efg", "ijk"}},
		{"abcdefghijk", 2, 2, 1 + 1i, []string{"ab", "ef"}},
		{"abc", 3, 2, 2, []string{"abc", ""}},
		{"abc", 2, 3, 1, []string{"ab", "", ""}},
		{"a  d", 3, 3, 1i, []string{"a", "", ""}},
		{"\n\n", 4, 1, 0, []string{""}},
		{"abc", 200, 200, 3, append([]string{"abc"}, make([]string, 199)...)},
	} {
		s := newScreen(t, 4, 3)
		s.write(row.text)
		s.resize(row.cols, row.rows)
		s.mustStand(row.cursor, row.lines...)
		s.write("xy\n\tz")
		s.holdsFar()
	}
}

// P19.1: Resize to each size, from each place of screens that are full up to
// the cursor's row.
func TestResize(t *testing.T) {
	for _, size := range []at{{1, 1}, {1, 3}, {3, 1}, {2, 2}, {5, 3}, {3, 4}} {
		for _, cursor := range places(size.col, size.row) {
			for _, to := range places(7, 6) {
				s := filled(t, size.col, size.row, cursor)
				s.resize(to.col+1, to.row+1)
				s.holdsFar()
				s.put("+\n-")
			}
		}
	}
}

// P19.1: what a Resize lost is blank behind the next one, too.
func TestResizeLoses(t *testing.T) {
	s := filled(t, 6, 4, at{5, 3})
	s.resize(3, 2)
	s.resize(6, 4)
	s.mustStand(2+1i, letters(6, 0)[:3], letters(6, 1)[:3], "", "")
	s.resize(2, 4)
	s.resize(6, 1)
	s.resize(6, 4)
	s.mustStand(1, letters(6, 0)[:2], "", "", "")
	s.resize(1, 1)
	s.resize(most, most)
	s.mustStand(0, append([]string{letters(6, 0)[:1]}, make([]string, most-1)...)...)
	s.write("x\n\n")
	s.resize(2, 2)
	s.write("\n")
	s.resize(3, 3)
	s.mustStand(1+1i, "", "", "")
}

// P19.1: the first rows stay, also where the screen has gone up, and rows that
// went beyond the first one don't come back.
func TestResizeBehindGoingUp(t *testing.T) {
	for n := range 9 {
		s := newScreen(t, 3, 4)
		for i := range 4 + n {
			s.write("\r\n" + letters(2, i))
		}
		was := s.is.Lines()
		s.resize(3, 6)
		s.mustStand(2+3i, append(was, "", "")...)
		s.resize(3, 2)
		s.mustStand(2+1i, was[:2]...)
		s.write("\n\n\n")
		s.resize(3, 4)
		s.mustStand(2+1i, "", "", "", "")
	}
}

// P19.1: Far from each place of screens to each one, and to those around.
func TestFar(t *testing.T) {
	for _, size := range sizes() {
		for _, cursor := range places(size.col, size.row) {
			filled(t, size.col, size.row, cursor).holdsFar()
		}
	}
}

// farScreen is a screen of 10 columns and 6 rows, its cursor in column 4, row 3.
func farScreen(t *testing.T) *screen { return filled(t, 10, 6, at{4, 3}) }

// P19.1: Far, written down.
func TestFarWrittenDown(t *testing.T) {
	minus := math.Copysign(0, -1) // a nought, too
	for _, row := range []struct {
		place complex128
		want  int
	}{
		{4 + 3i, 0},
		{5 + 3i, 1},
		{3 + 3i, 1},
		{4 + 4i, 1},
		{4 + 2i, 1},
		{5 + 4i, 2},
		{3 + 2i, 2},
		{5 + 2i, 2},
		{3 + 4i, 2},
		{0, 7},
		{9, 8},
		{5i, 6},
		{9 + 5i, 7},
		{9 + 3i, 5},
		{3i, 4},
		{4, 3},
		{4 + 5i, 2},
		{complex(minus, minus), 7},
		{complex(4, minus), 3},
		{complex(minus, 3), 4},
		{10 + 3i, -1},
		{-1 + 3i, -1},
		{4 + 6i, -1},
		{4 - 1i, -1},
		{10 + 6i, -1},
		{-1 - 1i, -1},
		{10, -1},
		{6i, -1},
		{3 + 9i, -1},
		{-4 - 3i, -1},
		{-4 + 3i, -1},
		{4 - 3i, -1},
	} {
		if got := farScreen(t).is.Far(row.place); got != row.want {
			t.Errorf("Far(%v): %d, not %d", row.place, got, row.want)
		}
	}
}

// odd is parts that are no whole numbers, infinite, no numbers, or far beyond a
// screen: among them such as would wrap round to a whole number within it.
func odd() []float64 {
	list := []float64{
		math.NaN(), math.Inf(1), math.Inf(-1), math.Float64frombits(0xfff8000000000001), math.Float64frombits(0x7ff0000000000001),
		0.5, -0.5, 0.25, 1.5, 2.999, 3.0000001, 4.5, 5.5, 8.5, 9.5, -1.5, 1e-9, -1e-9, 1e-300, -1e-300,
		math.SmallestNonzeroFloat64, -math.SmallestNonzeroFloat64, math.MaxFloat64, -math.MaxFloat64, 1e300, -1e300,
		256, 260, 259, -252, 65536 + 4, 1<<31 + 4, 1 << 32, 1<<32 + 4, 1<<32 + 3, -1<<32 + 4, 1 << 53, 1<<53 + 4, 1 << 62, 1 << 63, 1 << 64, 1<<64 + 4096, -1 << 63, -1 << 64,
	}
	for whole := range 10 {
		list = append(list, math.Nextafter(float64(whole), 20), math.Nextafter(float64(whole), -20))
	}
	return append(list, math.Nextafter(10, 0), math.Nextafter(6, 0))
}

// P19.1: Far of places whose parts are no whole numbers, or beyond the screen.
func TestFarOdd(t *testing.T) {
	s := farScreen(t)
	parts := slices.Concat(odd(), []float64{0, 1, 3, 4, 5, 9})
	for _, part := range odd() {
		for _, other := range parts {
			for _, place := range []complex128{complex(part, other), complex(other, part)} {
				if got := s.is.Far(place); got != -1 {
					t.Fatalf("Far(%v): %d", place, got)
				}
			}
		}
	}
	s.mustStand(4+3i, s.m.lines()...)
}

// P19.1: Far follows the cursor.
func TestFarFollows(t *testing.T) {
	s := newScreen(t, 9, 4)
	for _, step := range []struct {
		text string
		want int // from 8 + 3i
	}{
		{"", 11}, {"a", 10}, {"\n", 9}, {"\t", 2}, {"\b\b", 4}, {"\r", 10}, {"\n\n", 8}, {"\n", 8}, {"12345678", 0}, {"9", 8}, {"\f", 11},
	} {
		s.write(step.text)
		if got := s.is.Far(8 + 3i); got != step.want {
			t.Fatalf("Far behind %q: %d, not %d", step.text, got, step.want)
		}
		s.holdsFar()
	}
	s.resize(8, 4)
	if got := s.is.Far(8 + 3i); got != -1 {
		t.Fatalf("Far beyond a lesser screen: %d", got)
	}
}

// P19.1: asking changes nothing: what stands, stands as it was.
func TestAskingChangesNothing(t *testing.T) {
	s := filled(t, 5, 4, at{1, 3})
	was := s.is.Lines()
	for _, row := range []int{-1, 0, 3, 4} {
		s.is.Line(row)
	}
	for _, part := range odd() {
		s.is.Far(complex(part, part))
	}
	s.is.Far(0)
	s.is.Size()
	s.mustStand(1+3i, was...)
	s.holds()
}

// calls is what may be done to a screen, one call each.
func calls() []func(s *screen) {
	list := []func(s *screen){
		func(s *screen) { s.write("xyz") },
		func(s *screen) { s.resize(2, 3) },
		func(s *screen) { s.resize(9, 2) },
		func(s *screen) { s.resize(1, 1) },
		func(s *screen) { s.resize(3, 201) },
	}
	for _, text := range []string{"a", " ", "\b", "\t", "\n", "\r", "\f", "\x7f"} {
		list = append(list, func(s *screen) { s.put(text) })
	}
	return list
}

// P19.1, P19.2: each four calls, in every order, on a few small screens.
func TestEveryOrder(t *testing.T) {
	list := calls()
	for _, size := range []at{{1, 1}, {1, 3}, {3, 1}, {2, 2}, {9, 2}} {
		n := len(list)
		for order := range n * n * n * n {
			s := &screen{t: t, m: newModel(size.col, size.row)}
			var err error
			if s.is, err = cells.New(size.col, size.row); err != nil {
				t.Fatalf("New: %v", err)
			}
			for rest := order + n*n*n*n; rest > 1; rest /= n {
				list[rest%n](s)
			}
		}
	}
}

// someText is bytes by chance: mostly such as do something.
func someText(chance *rand.Rand) string {
	b := make([]byte, chance.Intn([]int{2, 6, 30, 300}[chance.Intn(4)]))
	for i := range b {
		switch chance.Intn(5) {
		case 0:
			b[i] = []byte{8, 9, 10, 10, 13}[chance.Intn(5)]
		case 1:
			b[i] = byte(chance.Intn(256))
		default:
			b[i] = byte(32 + chance.Intn(95))
		}
	}
	return string(b)
}

// someSize is columns, or rows, by chance: mostly few, at times too many.
func someSize(chance *rand.Rand) int {
	switch chance.Intn(12) {
	case 0:
		return beyond()[chance.Intn(len(beyond()))]
	case 1:
		return 1 + chance.Intn(most)
	}
	return 1 + chance.Intn(12)
}

// somePart is a part of a place by chance, of a screen of so many.
func somePart(chance *rand.Rand, n int) float64 {
	if chance.Intn(8) == 0 {
		return odd()[chance.Intn(len(odd()))]
	}
	return float64(chance.Intn(n+4) - 2)
}

// holdsSomeFar holds Far of a place by chance against the model.
func (s *screen) holdsSomeFar(chance *rand.Rand) {
	s.t.Helper()
	col, row := somePart(chance, s.m.cols), somePart(chance, s.m.rows)
	want := -1
	for _, p := range places(s.m.cols, s.m.rows) {
		if float64(p.col) == col && float64(p.row) == row {
			want = s.m.far(p.col, p.row)
		}
	}
	if got := s.is.Far(complex(col, row)); got != want {
		s.t.Fatalf("Far(%v) from %v of %d, %d: %d, not %d", complex(col, row), s.m.cursor, s.m.cols, s.m.rows, got, want)
	}
}

// P19.1, P19.2: calls by chance, in every order.
func TestByChance(t *testing.T) {
	chance := rand.New(rand.NewSource(19))
	for range 150 {
		s := newScreen(t, 1+chance.Intn(20), 1+chance.Intn(8))
		for range 40 {
			switch chance.Intn(6) {
			case 0:
				s.resize(someSize(chance), someSize(chance))
			case 1:
				s.put(string([]byte{byte(chance.Intn(256))}))
			case 2:
				s.put([]string{"\b", "\t", "\n", "\f", "\r", "a"}[chance.Intn(6)])
			case 3:
				s.holdsSomeFar(chance)
			default:
				s.write(someText(chance))
			}
		}
	}
}

// The zero Screen has no rows: no call panics, and Resize gives it some.
func TestZero(t *testing.T) {
	var s cells.Screen
	s.Write(every())
	s.Put('a')
	if err := s.Resize(0, 4); !errors.Is(err, api.ErrRange) {
		t.Errorf("Resize: %v", err)
	}
	cols, rows := s.Size()
	if cols != 0 || rows != 0 || s.Cursor() != 0 || len(s.Lines()) != 0 || s.Line(0) != "" {
		t.Errorf("%d, %d, %v, %q, %q", cols, rows, s.Cursor(), s.Lines(), s.Line(0))
	}
	for _, place := range []complex128{0, -1, -1i, -1 - 1i, 1 + 1i} {
		if got := s.Far(place); got != -1 {
			t.Errorf("Far(%v): %d", place, got)
		}
	}
	if err := s.Resize(3, 2); err != nil {
		t.Fatalf("Resize: %v", err)
	}
	s.Write([]byte("abcd"))
	(&screen{t, &s, newModel(3, 2)}).mustStand(1+1i, "abc", "d")
}

// No numbers, bytes and places make a call panic, or are answered otherwise than
// they should be.
func FuzzCalls(f *testing.F) {
	f.Add(4, 2, []byte("abcde"), 3, 3, []byte("\b\t\n"), 1.0, 0.5)
	f.Add(1, 1, []byte("\f\r"), 0, 5, []byte{}, -1.0, math.Inf(1))
	f.Add(200, 200, []byte{0, 127, 255}, math.MaxInt, math.MinInt, []byte("x"), math.NaN(), 199.0)
	f.Fuzz(func(t *testing.T, cols, rows int, first []byte, newCols, newRows int, second []byte, col, row float64) {
		if !may(cols) || !may(rows) {
			if s, err := cells.New(cols, rows); s != nil || !errors.Is(err, api.ErrRange) {
				t.Fatalf("New(%d, %d): %v, %v", cols, rows, s, err)
			}
			return
		}
		s := newScreen(t, cols, rows)
		s.write(string(first))
		s.resize(newCols, newRows)
		s.write(string(second))
		want := -1
		if col == math.Trunc(col) && row == math.Trunc(row) && math.Abs(col) < 300 && math.Abs(row) < 300 {
			want = s.m.far(int(col), int(row))
		}
		if got := s.is.Far(complex(col, row)); got != want {
			t.Fatalf("Far(%v): %d, not %d", complex(col, row), got, want)
		}
	})
}
