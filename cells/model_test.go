package cells_test

import (
	"errors"
	"math"
	"slices"
	"strings"
	"testing"

	"truchman/api"
	"truchman/cells"
)

// most is how many columns, or rows, a screen may have.
const most = 200

// at is a place, by its column and row.
type at struct{ col, row int }

// model is what a Screen should hold. It has no blank cells: they are the places
// at which nothing is.
type model struct {
	cols, rows int
	shown      map[at]byte
	cursor     at
}

// newModel is a model of a screen that is new.
func newModel(cols, rows int) *model {
	return &model{cols: cols, rows: rows, shown: map[at]byte{}}
}

// put is what a byte should do.
func (m *model) put(c byte) {
	switch c {
	case 8:
		if m.cursor.col != 0 {
			m.cursor.col--
		}
	case 9:
		m.tab()
	case 10:
		m.cursor.row++
	case 12:
		*m = *newModel(m.cols, m.rows)
	case 13:
		m.cursor.col = 0
	default:
		if c > 31 && c < 127 {
			m.show(c)
		}
	}
	if m.cursor.row == m.rows {
		m.cursor.row--
		m.up()
	}
}

// tab goes to the right, step by step, till it stands where a tab leads.
func (m *model) tab() {
	for m.cursor.col != m.cols-1 {
		m.cursor.col++
		if m.cursor.col%8 == 0 {
			return
		}
	}
}

// show lets a byte stand at the cursor.
func (m *model) show(c byte) {
	m.shown[m.cursor] = c
	if c == 32 {
		delete(m.shown, m.cursor)
	}
	m.cursor.col++
	if m.cursor.col == m.cols {
		m.cursor = at{0, m.cursor.row + 1}
	}
}

// up lets all rows go up by one.
func (m *model) up() {
	was := m.shown
	m.shown = map[at]byte{}
	for place, c := range was {
		if place.row > 0 {
			m.shown[at{place.col, place.row - 1}] = c
		}
	}
}

// resize is what Resize should do, and answer.
func (m *model) resize(cols, rows int) error {
	if !may(cols) || !may(rows) {
		return api.ErrRange
	}
	m.cols, m.rows = cols, rows
	for place := range m.shown {
		if place.col >= cols || place.row >= rows {
			delete(m.shown, place)
		}
	}
	if m.cursor.col >= cols {
		m.cursor.col = cols - 1
	}
	if m.cursor.row >= rows {
		m.cursor.row = rows - 1
	}
	return nil
}

// lines is what Lines should answer.
func (m *model) lines() []string {
	list := make([][]byte, m.rows)
	for i := range list {
		list[i] = []byte(strings.Repeat(" ", m.cols))
	}
	for place, c := range m.shown {
		list[place.row][place.col] = c
	}
	told := make([]string, m.rows)
	for i, row := range list {
		told[i] = strings.TrimRight(string(row), " ")
	}
	return told
}

// far is what Far should answer of a place of whole numbers: steps are gone till
// it is reached.
func (m *model) far(col, row int) int {
	if col < 0 || col >= m.cols || row < 0 || row >= m.rows {
		return -1
	}
	n := 0
	for c := min(col, m.cursor.col); c < max(col, m.cursor.col); c++ {
		n++
	}
	for r := min(row, m.cursor.row); r < max(row, m.cursor.row); r++ {
		n++
	}
	return n
}

// may tells whether a number may be columns or rows.
func may(n int) bool { return n > 0 && n <= most }

// place is a place of whole numbers.
func place(col, row int) complex128 { return complex(float64(col), float64(row)) }

// beyond is numbers that are neither columns nor rows, near and far: among them
// such whose last bits are those of a number that may be.
func beyond() []int {
	return []int{
		0, -1, -2, -24, -80, -127, -128, -199, -200, -201, -256, 80 - 256, 80 - 65536,
		most + 1, most + 2, 2 * most, 255, 256, 257, 256 + 80, 1000, 65535, 65536, 65536 + 1, 65536 + 80, 1 << 24, 1<<24 + 80,
		1<<31 - 1, 1 << 31, 1<<31 + 80, -1 << 31, -1<<31 + 80, 1<<32 - 1, 1 << 32, 1<<32 + 80, -1 << 32, -1<<32 + 80, 1 << 40, 1<<62 + 80,
		math.MaxInt, math.MaxInt - 1, math.MaxInt - 199, math.MinInt, math.MinInt + 1, math.MinInt + 80,
	}
}

// screen is a Screen, and the model of it: each call is done to both.
type screen struct {
	t  *testing.T
	is *cells.Screen
	m  *model
}

// newScreen is a new one, held against a new model.
func newScreen(t *testing.T, cols, rows int) *screen {
	t.Helper()
	is, err := cells.New(cols, rows)
	if err != nil || is == nil {
		t.Fatalf("New(%d, %d): %v, %v", cols, rows, is, err)
	}
	s := &screen{t, is, newModel(cols, rows)}
	s.holds()
	return s
}

// put puts bytes one by one; holds is called behind each.
func (s *screen) put(text string) {
	s.t.Helper()
	for i := range len(text) {
		s.is.Put(text[i])
		s.m.put(text[i])
		s.holds()
	}
}

// write writes bytes; what is given has room behind it that isn't its own, and
// is written over when the call has answered: nothing of it may be changed, or
// kept.
func (s *screen) write(text string) {
	s.t.Helper()
	all := []byte(text + "####")
	s.is.Write(all[:len(text)])
	if string(all) != text+"####" {
		s.t.Fatalf("Write of %.60q changed what it was given: %.60q", text, all)
	}
	for i := range all {
		all[i] = '?'
	}
	for i := range len(text) {
		s.m.put(text[i])
	}
	s.holds()
}

// resize resizes both.
func (s *screen) resize(cols, rows int) {
	s.t.Helper()
	got, want := s.is.Resize(cols, rows), s.m.resize(cols, rows)
	if !isError(got, want) {
		s.t.Fatalf("Resize(%d, %d): %v, not %v", cols, rows, got, want)
	}
	s.holds()
}

// isError tells whether an error is the one that is wanted, which may be none.
func isError(got, want error) bool {
	if want == nil {
		return got == nil
	}
	return errors.Is(got, want)
}

// holds holds all that can be asked of a screen against the model.
func (s *screen) holds() {
	s.t.Helper()
	cols, rows := s.is.Size()
	if cols != s.m.cols || rows != s.m.rows {
		s.t.Fatalf("Size: %d, %d, not %d, %d", cols, rows, s.m.cols, s.m.rows)
	}
	s.holdsCursor()
	want := s.m.lines()
	if got := s.is.Lines(); !slices.Equal(got, want) {
		s.t.Fatalf("Lines: %q, not %q", got, want)
	}
	for row, w := range want {
		if got := s.is.Line(row); got != w {
			s.t.Fatalf("Line(%d): %q, not %q", row, got, w)
		}
	}
	for _, row := range []int{-1, rows, rows + 1, math.MinInt, math.MaxInt} {
		if got := s.is.Line(row); got != "" {
			s.t.Fatalf("Line(%d) of %d rows: %q", row, rows, got)
		}
	}
}

// holdsCursor holds the cursor against the model: it is within the screen.
func (s *screen) holdsCursor() {
	s.t.Helper()
	cursor := s.is.Cursor()
	if cursor != place(s.m.cursor.col, s.m.cursor.row) {
		s.t.Fatalf("Cursor: %v, not %v", cursor, s.m.cursor)
	}
	cols, rows := s.is.Size()
	if real(cursor) < 0 || real(cursor) >= float64(cols) || imag(cursor) < 0 || imag(cursor) >= float64(rows) {
		s.t.Fatalf("Cursor: %v, of %d columns and %d rows", cursor, cols, rows)
	}
	if got := s.is.Far(cursor); got != 0 {
		s.t.Fatalf("Far of the cursor's own place %v: %d", cursor, got)
	}
}

// holdsFar holds Far of all places of a screen, and of those around it, against
// the model.
func (s *screen) holdsFar() {
	s.t.Helper()
	for col := -2; col <= s.m.cols+1; col++ {
		for row := -2; row <= s.m.rows+1; row++ {
			if got, want := s.is.Far(place(col, row)), s.m.far(col, row); got != want {
				s.t.Fatalf("Far(%v) from %v of %d columns and %d rows: %d, not %d", place(col, row), s.m.cursor, s.m.cols, s.m.rows, got, want)
			}
		}
	}
}

// mustStand holds a screen against lines and a cursor that are written down.
func (s *screen) mustStand(cursor complex128, lines ...string) {
	s.t.Helper()
	if got := s.is.Lines(); !slices.Equal(got, lines) {
		s.t.Fatalf("the lines are %q, not %q", got, lines)
	}
	if got := s.is.Cursor(); got != cursor {
		s.t.Fatalf("the cursor is at %v, not at %v", got, cursor)
	}
}

// letters is a row's text of so many bytes, of which no two neighbours, and no
// two rows, are the same.
func letters(cols, row int) string {
	b := make([]byte, cols)
	for i := range b {
		b[i] = byte('A' + (i+7*row)%50)
	}
	return string(b)
}

// filled is a screen with something in each cell of the rows up to the cursor's,
// and the cursor at a place. Below the cursor's row nothing can ever stand: it
// goes up only where all is blank, or those rows are lost.
func filled(t *testing.T, cols, rows int, cursor at) *screen {
	t.Helper()
	s := newScreen(t, cols+1, rows) // so that the last column is written ahead of the row's end
	for row := range cursor.row + 1 {
		if row > 0 {
			s.write("\r\n")
		}
		s.write(letters(cols, row))
	}
	s.resize(cols, rows)
	s.write(strings.Repeat("\b", cols-1-cursor.col))
	if s.m.cursor != cursor {
		t.Fatalf("the cursor is at %v, not at %v", s.m.cursor, cursor)
	}
	return s
}

// places is all places of a screen.
func places(cols, rows int) []at {
	var list []at
	for row := range rows {
		for col := range cols {
			list = append(list, at{col, row})
		}
	}
	return list
}
