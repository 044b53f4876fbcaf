package cells_test

import (
	"math"
	"slices"
	"testing"

	"coachhouse/api"
	"coachhouse/cells"
)

// made is memory of so many cells, each with a word of its own: 100, 101, and so on, each touched once.
func made(t *testing.T, many int) *cells.Mem {
	t.Helper()
	m, e := cells.New(many)
	if e != api.OK || m == nil {
		t.Fatalf("New(%d): %v", many, e)
	}
	for i := range many {
		if !m.Store(i, 100+i) {
			t.Fatalf("Store(%d) of %d cells: false", i, many)
		}
	}
	return m
}

// holds asks what the memory has, without touching a cell of it.
func holds(t *testing.T, what string, m *cells.Mem, words []int, touched int) {
	t.Helper()
	if got := m.Words(); !slices.Equal(got, words) {
		t.Errorf("%s: Words: %v, want %v", what, got, words)
	}
	if got := m.Touched(); got != touched {
		t.Errorf("%s: Touched: %d, want %d", what, got, touched)
	}
	if got := m.Many(); got != len(words) {
		t.Errorf("%s: Many: %d, want %d", what, got, len(words))
	}
}

func TestMaxCells(t *testing.T) {
	if cells.MaxCells != 4096 {
		t.Error(cells.MaxCells)
	}
}

// The chapter's examples.
func TestExamples(t *testing.T) {
	m, e := cells.New(2)
	if e != api.OK {
		t.Fatal(e)
	}
	if got := m.Add(1, 5); got != 0 {
		t.Errorf("Add(1, 5): %d", got)
	}
	if !m.Cas(1, 5, 7) {
		t.Error("Cas(1, 5, 7): false")
	}
	if got := m.Load(1); got != 7 {
		t.Errorf("Load(1): %d", got)
	}
	if m.Cas(2, 0, 1) {
		t.Error("Cas(2, 0, 1): true")
	}
	holds(t, "in the end", m, []int{0, 7}, 3)
}

// P2.1: from 1 to MaxCells cells, all 0, none touched.
func TestNew(t *testing.T) {
	for _, many := range []int{1, 2, 3, 63, 64, 65, 1000, 4095, 4096} {
		m, e := cells.New(many)
		if e != api.OK || m == nil {
			t.Fatalf("New(%d): %v, %v", many, m, e)
		}
		holds(t, "new", m, make([]int, many), 0)
		if !m.Store(many-1, 1) || m.Store(many, 1) {
			t.Errorf("New(%d): the last cell isn't %d", many, many-1)
		}
	}
}

// P2.1, R3: beside the error there is no memory.
func TestNewOfTooFewOrTooMany(t *testing.T) {
	for _, many := range []int{0, -1, -2, -4096, math.MinInt, 4097, 4098, 1 << 32, 1<<32 + 1, 1 << 62, math.MaxInt} {
		if m, e := cells.New(many); m != nil || e != api.ErrArg {
			t.Errorf("New(%d): %v, %v", many, m, e)
		}
	}
}

// P2.1, R6: one memory has nothing to do with another one.
func TestNewByItself(t *testing.T) {
	a, b := made(t, 3), made(t, 3)
	a.Store(1, 9)
	a.Add(2, 1)
	holds(t, "the first one", a, []int{100, 9, 103}, 5)
	holds(t, "the other one", b, []int{100, 101, 102}, 3)
}

// P2.1, R5: who changes what Words told changes nothing else.
func TestWordsIsMemoryOfItsOwn(t *testing.T) {
	m := made(t, 3)
	first, second := m.Words(), m.Words()
	first[0], first[2] = -1, -2
	_ = append(first[:1], 55, 66, 77)
	if !slices.Equal(second, []int{100, 101, 102}) {
		t.Errorf("two lists of words share memory: %v", second)
	}
	holds(t, "a list changed", m, []int{100, 101, 102}, 3)
	if m.Load(0) != 100 {
		t.Error("a list changed: Load(0) isn't 100")
	}
	m.Store(1, 8)
	if !slices.Equal(second, []int{100, 101, 102}) {
		t.Errorf("a list goes on with the cells: %v", second)
	}
}

// P2.1: Touched counts each touch, of any cell.
func TestTouchedCountsAllCells(t *testing.T) {
	m, _ := cells.New(4096)
	for n := range 10000 {
		if m.Touched() != n {
			t.Fatalf("touched %d times: %d", n, m.Touched())
		}
		m.Load(n * 7 % 4096)
	}
}

// P2.1: a copy is like it, and each goes on by itself.
func TestCopy(t *testing.T) {
	m := made(t, 3)
	m.Load(0)
	c := m.Copy()
	if c == m {
		t.Fatal("a copy is the memory itself")
	}
	holds(t, "copied", m, []int{100, 101, 102}, 4)
	holds(t, "the copy", c, []int{100, 101, 102}, 4)
	c.Store(1, 5)
	c.Cas(2, 102, 6)
	holds(t, "the copy went on", m, []int{100, 101, 102}, 4)
	holds(t, "the copy went on", c, []int{100, 5, 6}, 6)
	m.Add(0, 7)
	holds(t, "the first one went on", m, []int{107, 101, 102}, 5)
	holds(t, "the first one went on", c, []int{100, 5, 6}, 6)
	d := c.Copy()
	d.Load(0)
	holds(t, "a copy's copy", d, []int{100, 5, 6}, 7)
	holds(t, "a copy's copy", c, []int{100, 5, 6}, 6)
}

// P2.2: what Load tells and touches.
func TestLoad(t *testing.T) {
	m := made(t, 4)
	for i := range 4 {
		if got := m.Load(i); got != 100+i {
			t.Errorf("Load(%d): %d", i, got)
		}
		holds(t, "loaded", m, []int{100, 101, 102, 103}, 5+i)
	}
}

// edges are words at which something might go round, or be held for nothing.
func edges() []int {
	return []int{0, 1, -1, 2, 7, -7, 1 << 31, 1<<32 + 1, -1 << 32, 1 << 62, -1 << 62, math.MaxInt - 1, math.MaxInt, math.MinInt, math.MinInt + 1}
}

// P2.2: what Store tells and touches; what a cell had is of no matter.
func TestStore(t *testing.T) {
	for _, had := range edges() {
		for _, v := range edges() {
			m := made(t, 3)
			m.Store(1, had)
			if !m.Store(1, v) {
				t.Errorf("Store(1, %d) over %d: false", v, had)
			}
			holds(t, "stored", m, []int{100, v, 102}, 5)
			if got := m.Load(1); got != v {
				t.Errorf("stored %d, loaded %d", v, got)
			}
		}
	}
}

// P2.2: Cas swaps where the cell has the old word, and touches it once either way.
func TestCas(t *testing.T) {
	for _, had := range edges() {
		for _, old := range edges() {
			for _, next := range edges() {
				m := made(t, 3)
				m.Store(1, had)
				want, after := false, had
				if had == old {
					want, after = true, next
				}
				if got := m.Cas(1, old, next); got != want {
					t.Errorf("Cas(1, %d, %d) of %d: %v", old, next, had, got)
				}
				holds(t, "swapped", m, []int{100, after, 102}, 5)
			}
		}
	}
}

// P2.2: Cas holds against the cell of its number, not against another one.
func TestCasAsksItsOwnCell(t *testing.T) {
	m := made(t, 3)
	if m.Cas(1, 100, 7) || m.Cas(1, 102, 7) || m.Cas(0, 101, 7) {
		t.Error("swapped by another cell's word")
	}
	holds(t, "not swapped", m, []int{100, 101, 102}, 6)
}

// P2.2: Add tells what the cell had, and goes round at 2^63.
func TestAdd(t *testing.T) {
	for _, had := range edges() {
		for _, d := range edges() {
			m := made(t, 3)
			m.Store(1, had)
			if got := m.Add(1, d); got != had {
				t.Errorf("Add(1, %d) of %d: %d", d, had, got)
			}
			holds(t, "added", m, []int{100, int(uint64(had) + uint64(d)), 102}, 5)
		}
	}
}

// P2.2: a call with a number that isn't a cell's touches none, changes nothing, and tells 0, or false.
func TestNotACell(t *testing.T) {
	for _, many := range []int{1, 2, 3, 4095, 4096} {
		m := made(t, many)
		words := m.Words()
		for _, i := range []int{-1, -2, -many, math.MinInt, -1 << 32, many, many + 1, 2 * many, 4096, 4097, 1 << 32, 1<<32 + 1, 1 << 62, math.MaxInt} {
			if got := m.Load(i); got != 0 {
				t.Errorf("Load(%d) of %d cells: %d", i, many, got)
			}
			if m.Store(i, 5) {
				t.Errorf("Store(%d, 5) of %d cells: true", i, many)
			}
			for _, old := range []int{0, 5, 100, 100 + many - 1} {
				if m.Cas(i, old, 6) || m.Cas(i, old, old) {
					t.Errorf("Cas(%d, %d, ..) of %d cells: true", i, old, many)
				}
			}
			if got := m.Add(i, 3); got != 0 {
				t.Errorf("Add(%d, 3) of %d cells: %d", i, many, got)
			}
			holds(t, "not a cell", m, words, many)
		}
	}
}

// P2.2: Words, Many, Touched and Copy touch none.
func TestWhoOnlyAsksTouchesNone(t *testing.T) {
	m := made(t, 3)
	for range 3 {
		m.Words()
		m.Many()
		m.Touched()
		m.Copy()
		holds(t, "asked", m, []int{100, 101, 102}, 3)
	}
}

// shadow is what the memory should be, kept as a list by the test.
type shadow struct {
	words   []int
	touched int
}

func (s *shadow) isCell(i int) bool { return i >= 0 && i < len(s.words) }

// does has the memory and the shadow do the same, and tells whether they answer the same.
func (s *shadow) does(m *cells.Mem, op, i, a, b int) bool {
	want, done := 0, false
	if s.isCell(i) {
		s.touched++
		want, done = s.words[i], true
	}
	switch op {
	case 0:
		return m.Load(i) == want
	case 1:
		if done {
			s.words[i] = a
		}
		return m.Store(i, a) == done
	case 2:
		done = done && s.words[i] == a
		if done {
			s.words[i] = b
		}
		return m.Cas(i, a, b) == done
	}
	if done {
		s.words[i] += a
	}
	return m.Add(i, a) == want
}

// P2.3, P2.2, P2.1: in long runs of calls, over right and wrong numbers, all cells are as the calls with their numbers left them, and copies go on by themselves.
func TestLongRuns(t *testing.T) {
	for _, many := range []int{1, 2, 5, 33} {
		m, _ := cells.New(many)
		s := &shadow{words: make([]int, many)}
		x := uint64(many)
		next := func(n int) int {
			x = x*6364136223846793005 + 1442695040888963407
			return int(x>>33) % n
		}
		for n := range 4000 {
			op, i, a, b := next(4), next(many+4)-2, next(5)-2, next(5)-2
			if !s.does(m, op, i, a, b) {
				t.Fatalf("%d cells, call %d: op %d of cell %d with %d, %d", many, n, op, i, a, b)
			}
			holds(t, "a long run", m, s.words, s.touched)
			if next(20) == 0 {
				left := m
				m = m.Copy()
				left.Store(next(many), 77)
				left.Load(0)
			}
		}
	}
}
