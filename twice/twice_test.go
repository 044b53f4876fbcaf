package twice_test

import (
	"math"
	"math/rand/v2"
	"slices"
	"testing"

	"coachhouse/api"
	"coachhouse/cells"
	"coachhouse/conf"
	"coachhouse/twice"
)

// laid is memory with words in the slots' cells, those of no slot being 99.
func laid(t *testing.T, c api.Conf, words ...int) *cells.Mem {
	t.Helper()
	m, e := conf.Mem(c)
	if e != api.OK {
		t.Fatal(e)
	}
	for i := range m.Many() {
		m.Store(i, 99)
	}
	for i := range c.Slots {
		m.Store(conf.Slot(c, i), 0)
	}
	for i, w := range words {
		put(t, c, m, i, w)
	}
	return m
}

// put has a slot have a word.
func put(t *testing.T, c api.Conf, m *cells.Mem, i, w int) {
	t.Helper()
	if !m.Store(conf.Slot(c, i), w) {
		t.Fatalf("there is no slot %d", i)
	}
}

// steps has x look once, and holds what it tells, and how many cells it touched, against what ought to be; no word may be changed.
func steps(t *testing.T, x *twice.Twice, m *cells.Mem, want bool, touches int) {
	t.Helper()
	was, n := m.Words(), m.Touched()
	if got := x.Step(m); got != want {
		t.Fatalf("Step: %t, want %t", got, want)
	}
	if m.Touched() != n+touches {
		t.Fatalf("Step touched %d, want %d", m.Touched()-n, touches)
	}
	if !slices.Equal(m.Words(), was) {
		t.Fatalf("Step changed %v to %v", was, m.Words())
	}
}

// saw holds the rounds, and the words, against those that ought to be, twice, since who only asks changes nothing.
func saw(t *testing.T, x *twice.Twice, rounds int, words ...int) {
	t.Helper()
	for range 2 {
		if got := x.Rounds(); got != rounds {
			t.Fatalf("Rounds: %d, want %d", got, rounds)
		}
		if got := x.Words(); !slices.Equal(got, words) {
			t.Fatalf("Words: %v, want %v", got, words)
		}
	}
}

// goes has x look at all slots once, the words of which ought to make it be done, or not.
func goes(t *testing.T, x *twice.Twice, c api.Conf, m *cells.Mem, done bool) {
	t.Helper()
	for i := range c.Slots {
		steps(t, x, m, done && i == c.Slots-1, 1)
	}
}

// TestExample: the chapter's.
func TestExample(t *testing.T) {
	c := api.Conf{Workers: 1, Slots: 3, Uses: 1}
	m := laid(t, c, 131098, 0, 2)
	x := twice.New(c)
	for i := range 6 {
		saw(t, x, i/3)
		steps(t, x, m, i == 5, 1)
	}
	saw(t, x, 2, 131098, 0, 2)
}

// TestNew: P15.1, one that is new has done no round, and has no words.
func TestNew(t *testing.T) {
	for slots := 1; slots <= 16; slots++ {
		saw(t, twice.New(api.Conf{Workers: 1, Slots: slots, Uses: 1}), 0)
	}
}

// TestAlone: P15.2, where nobody else touches the memory it is done behind two rounds, of confs of all sizes; P15.1, then nothing is touched any more.
func TestAlone(t *testing.T) {
	for slots := 1; slots <= 16; slots++ {
		for workers := 1; workers <= 8; workers++ {
			c := api.Conf{Workers: workers, Slots: slots, Streams: 8, Waiters: 8, Uses: 60}
			for _, from := range []int{0, 1, 131098, -1, math.MinInt, math.MaxInt} {
				var words []int
				for i := range slots {
					words = append(words, from^i)
				}
				m := laid(t, c, words...)
				x := twice.New(c)
				goes(t, x, c, m, false)
				saw(t, x, 1)
				goes(t, x, c, m, true)
				saw(t, x, 2, words...)
				for range 3 {
					steps(t, x, m, true, 0)
					saw(t, x, 2, words...)
				}
			}
		}
	}
}

// TestOrder: P15.1, the slots are looked at from the first one on: what one has when it is looked at is seen, and not what it has before, or behind.
func TestOrder(t *testing.T) {
	c := api.Conf{Workers: 3, Slots: 5, Uses: 1}
	m := laid(t, c, 7, 7, 7, 7, 7)
	x := twice.New(c)
	for round := range 2 {
		for i := range c.Slots {
			put(t, c, m, i, 40+i)
			steps(t, x, m, round == 1 && i == 4, 1)
			put(t, c, m, i, 7)
		}
	}
	saw(t, x, 2, 40, 41, 42, 43, 44)
}

// TestOneOther: P15.1, a round that has one other word than the one ahead of it, at any place, isn't the last one; the next one is.
func TestOneOther(t *testing.T) {
	for slots := 1; slots <= 16; slots++ {
		c := api.Conf{Workers: 2, Slots: slots, Uses: 1}
		for i := range slots {
			for _, w := range []int{1, -1, 1 << 16, 1 << 32, 1 << 62, math.MinInt, math.MaxInt} {
				m := laid(t, c)
				x := twice.New(c)
				goes(t, x, c, m, false)
				put(t, c, m, i, w)
				goes(t, x, c, m, false)
				saw(t, x, 2)
				goes(t, x, c, m, true)
				words := make([]int, slots)
				words[i] = w
				saw(t, x, 3, words...)
			}
		}
	}
}

// TestPlaces: P15.1, words are held against those at their places: the same ones in another order are others, also where their sum is the same.
func TestPlaces(t *testing.T) {
	c := api.Conf{Workers: 1, Slots: 3, Uses: 1}
	for _, then := range [][]int{{2, 1, 3}, {1, 3, 2}, {3, 2, 1}, {2, 3, 1}, {1, 1, 4}, {3, 1, 2}, {2, 2, 2}} {
		m := laid(t, c, 1, 2, 3)
		x := twice.New(c)
		goes(t, x, c, m, false)
		for i, w := range then {
			put(t, c, m, i, w)
		}
		goes(t, x, c, m, false)
		goes(t, x, c, m, true)
		saw(t, x, 3, then...)
	}
}

// TestRoundAhead: P15.1, a round is held against the one ahead of it alone: not against the first one, nor another earlier one.
func TestRoundAhead(t *testing.T) {
	c := api.Conf{Workers: 1, Slots: 2, Uses: 1}
	m := laid(t, c, 5, 8)
	x := twice.New(c)
	goes(t, x, c, m, false)
	for rounds, w := range []int{6, 5, 6, 7, 5} {
		put(t, c, m, 0, w)
		goes(t, x, c, m, false)
		saw(t, x, 2+rounds)
	}
	goes(t, x, c, m, true)
	saw(t, x, 7, 5, 8)
}

// TestAmidRounds: P15.1, rounds begin with the first slot: as many looks as a round has that saw the same, but lie in two of them, aren't enough.
func TestAmidRounds(t *testing.T) {
	c := api.Conf{Workers: 1, Slots: 4, Uses: 1}
	m := laid(t, c)
	x := twice.New(c)
	steps(t, x, m, false, 1)
	put(t, c, m, 0, 3)
	for range 10 {
		steps(t, x, m, false, 1)
	}
	saw(t, x, 2)
	steps(t, x, m, true, 1)
	saw(t, x, 3, 3, 0, 0, 0)
}

// TestWordsOfNoSlot: P15.1, words are held against each other as they are, also where they are no slot's, though each is decoded to the same zero slot.
func TestWordsOfNoSlot(t *testing.T) {
	c := api.Conf{Workers: 1, Slots: 2, Uses: 1}
	m := laid(t, c, 7, 7)
	x := twice.New(c)
	goes(t, x, c, m, false)
	for i, w := range []int{-1, 15, math.MinInt} {
		put(t, c, m, 1, w)
		goes(t, x, c, m, false)
		saw(t, x, 2+i)
	}
	goes(t, x, c, m, true)
	saw(t, x, 5, 7, math.MinInt)
}

// TestOtherCells: P15.1, what isn't a slot's isn't looked at, whatever becomes of it.
func TestOtherCells(t *testing.T) {
	c := api.Conf{Workers: 8, Slots: 2, Uses: 1}
	m := laid(t, c, 4, 5)
	x := twice.New(c)
	for i := range 4 {
		for cell := range conf.Slot(c, 0) {
			m.Add(cell, 1)
		}
		steps(t, x, m, i == 3, 1)
	}
	saw(t, x, 2, 4, 5)
}

// TestDoneStays: P15.1, when it is done what others make of the slots isn't seen any more.
func TestDoneStays(t *testing.T) {
	c := api.Conf{Workers: 1, Slots: 2, Uses: 1}
	m := laid(t, c, 4, 5)
	x := twice.New(c)
	goes(t, x, c, m, false)
	goes(t, x, c, m, true)
	for i := range 6 {
		put(t, c, m, i%2, 10+i)
		steps(t, x, m, true, 0)
		saw(t, x, 2, 4, 5)
	}
}

// TestOwnMemory: R5, who changes the words that are told, or adds to them, changes nothing else.
func TestOwnMemory(t *testing.T) {
	c := api.Conf{Workers: 1, Slots: 3, Uses: 1}
	m := laid(t, c, 4, 5, 6)
	x := twice.New(c)
	goes(t, x, c, m, false)
	goes(t, x, c, m, true)
	first, second := x.Words(), x.Words()
	first[0], first[2] = -1, -2
	_ = append(first[:1], 55, 66, 77)
	if !slices.Equal(second, []int{4, 5, 6}) {
		t.Errorf("two answers share memory: %v", second)
	}
	saw(t, x, 2, 4, 5, 6)
	if got := m.Words()[conf.Slot(c, 0):]; !slices.Equal(got, []int{4, 5, 6}) {
		t.Errorf("the memory: %v", got)
	}
}

// TestOtherMemory: R6, what is looked at is the memory that is handed in with each step.
func TestOtherMemory(t *testing.T) {
	c := api.Conf{Workers: 1, Slots: 2, Uses: 1}
	a, b := laid(t, c, 4, 5), laid(t, c, 4, 6)
	x := twice.New(c)
	steps(t, x, a, false, 1)
	steps(t, x, b, false, 1)
	goes(t, x, c, a, false)
	saw(t, x, 2)
	steps(t, x, a, false, 1)
	steps(t, x, b, false, 1)
	steps(t, x, b, false, 1)
	steps(t, x, b, true, 1)
	saw(t, x, 4, 4, 6)
	steps(t, x, a, true, 0)
	saw(t, x, 4, 4, 6)
}

// A look is what a Twice ought to be: all that it ever loaded, in order.
type look struct {
	c      api.Conf
	loaded []int
}

// round is the words of one round, which is counted from 0 on; none, if it isn't done.
func (l *look) round(n int) []int {
	if n < 0 || (n+1)*l.c.Slots > len(l.loaded) {
		return nil
	}
	return l.loaded[n*l.c.Slots : (n+1)*l.c.Slots]
}

// done is whether its last two rounds saw the same.
func (l *look) done() bool {
	n := len(l.loaded) / l.c.Slots
	return len(l.loaded)%l.c.Slots == 0 && n > 1 && slices.Equal(l.round(n-1), l.round(n-2))
}

// holds holds what x tells against it.
func (l *look) holds(t *testing.T, x *twice.Twice) {
	t.Helper()
	n := len(l.loaded) / l.c.Slots
	if l.done() {
		saw(t, x, n, l.round(n-1)...)
	} else {
		saw(t, x, n)
	}
}

// TestAmidOthers: P15.1, several look at one memory, in whatever order, while others change slots, also back to what they had: each is by itself.
func TestAmidOthers(t *testing.T) {
	r := rand.New(rand.NewPCG(15, 1))
	ended := 0
	for range 3000 {
		c := api.Conf{Workers: 1 + r.IntN(8), Slots: 1 + r.IntN(16), Uses: 1}
		m := laid(t, c)
		seldom := 1 + r.IntN(30)
		var l []*look
		var xs []*twice.Twice
		for range 3 {
			l, xs = append(l, &look{c: c}), append(xs, twice.New(c))
		}
		for range 200 {
			if r.IntN(seldom) == 0 {
				put(t, c, m, r.IntN(c.Slots), r.IntN(3))
			}
			i := r.IntN(3)
			if l[i].done() {
				steps(t, xs[i], m, true, 0)
				ended++
			} else {
				at := conf.Slot(c, len(l[i].loaded)%c.Slots)
				l[i].loaded = append(l[i].loaded, m.Words()[at])
				steps(t, xs[i], m, l[i].done(), 1)
			}
			for k := range xs {
				l[k].holds(t, xs[k])
			}
		}
	}
	if ended == 0 {
		t.Error("none was ever done")
	}
}

// TestOneMoment: P15.2, where no word comes back, the words that are told are those that stood there between the last two rounds, whatever others did.
func TestOneMoment(t *testing.T) {
	r := rand.New(rand.NewPCG(15, 2))
	late := 0
	for range 3000 {
		c := api.Conf{Workers: 1 + r.IntN(8), Slots: 1 + r.IntN(16), Uses: 1}
		m := laid(t, c)
		x := twice.New(c)
		seldom := 1 + r.IntN(3*c.Slots)
		looks := 0
		var between []int
		for done := false; !done && looks < 1000; {
			between = m.Words()[conf.Slot(c, 0):]
			for range c.Slots {
				looks++
				if looks < 500 && r.IntN(seldom) == 0 {
					put(t, c, m, r.IntN(c.Slots), looks)
				}
				done = x.Step(m)
			}
		}
		saw(t, x, looks/c.Slots, between...)
		late += x.Rounds() - 2
	}
	if late == 0 {
		t.Error("nothing was ever changed amid")
	}
}

// TestComesBack: P15.1, where words come back what is seen counts, though never both stood there at one moment.
func TestComesBack(t *testing.T) {
	c := api.Conf{Workers: 1, Slots: 2, Uses: 1}
	m := laid(t, c)
	x := twice.New(c)
	for i := range 4 {
		put(t, c, m, 1-i%2, 0)
		put(t, c, m, i%2, 1)
		steps(t, x, m, i == 3, 1)
	}
	saw(t, x, 2, 1, 1)
}

// TestAnything: R1, of confs of any numbers no call panics; one that isn't right has no slots, so that there is nothing to be touched, or told.
func TestAnything(t *testing.T) {
	edges := []int{math.MinInt, -1 << 32, -1, 0, 1, 2, 8, 9, 16, 17, 60, 61, 1 << 32, 1 << 62, math.MaxInt}
	m, _ := cells.New(40)
	for _, workers := range edges {
		for _, slots := range edges {
			for _, n := range edges {
				c := api.Conf{Workers: workers, Slots: slots, Streams: n, Waiters: n, Uses: n}
				x := twice.New(c)
				for i := range 5 {
					if conf.Right(c) {
						steps(t, x, m, i+1 >= 2*slots, min(1, max(2*slots-i, 0)))
						continue
					}
					steps(t, x, m, true, 0)
					saw(t, x, 0)
				}
			}
		}
	}
}
