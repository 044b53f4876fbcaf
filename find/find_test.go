package find_test

import (
	"math"
	"math/rand/v2"
	"slices"
	"testing"

	"coachhouse/api"
	"coachhouse/cells"
	"coachhouse/conf"
	"coachhouse/find"
	"coachhouse/slot"
)

// edges are numbers at the edges of an int, and of what kinds, owners and slots may be.
var edges = []int{math.MinInt, math.MinInt + 1, -1 << 32, -17, -2, -1, 0, 1, 2, 3, 4, 5, 6, 7, 8, 15, 16, 17, 1 << 32, 1<<32 + 1, 1<<32 + 4, math.MaxInt - 1, math.MaxInt}

// fits is whether a slot fits a kind, as the chapter has it.
func fits(s api.Slot, kind, own int) bool {
	idle, leased, empty, limbo := s.State == 2, s.State == 3, s.State == 0, s.State == 6
	switch kind {
	case 0:
		return idle && !s.Broken && s.Own == own
	case 1:
		return idle && !s.Broken
	case 2:
		return empty
	case 3:
		return idle && !s.Broken || empty
	case 4:
		return idle && s.Broken || idle && (own == 1 || own == 2) || leased && own == 2
	case 5:
		return limbo
	case 6:
		return idle
	}
	return false
}

// laid is memory with words in the slots' cells. All others have the word of an idle slot of 1, that would be found there, too.
func laid(t *testing.T, c api.Conf, words ...int) *cells.Mem {
	t.Helper()
	m, e := conf.Mem(c)
	if e != api.OK {
		t.Fatal(e)
	}
	for i := range m.Many() {
		m.Store(i, word(t, api.Slot{State: api.Idle, Own: 1}))
	}
	for i := range c.Slots {
		m.Store(conf.Slot(c, i), 0)
	}
	for i, w := range words {
		if !m.Store(conf.Slot(c, i), w) {
			t.Fatalf("there is no slot %d", i)
		}
	}
	return m
}

// word is a right slot's.
func word(t *testing.T, s api.Slot) int {
	t.Helper()
	w, ok := slot.Encode(s)
	if !ok {
		t.Fatalf("%+v isn't right", s)
	}
	return w
}

// steps has f look once, and holds what it tells, whether a cell was touched, and what is found then against what ought to be; no word may be changed.
func steps(t *testing.T, f *find.Find, m *cells.Mem, want bool, touches int) {
	t.Helper()
	was, n := m.Words(), m.Touched()
	if got := f.Step(m); got != want {
		t.Fatalf("Step: %t, want %t", got, want)
	}
	if m.Touched() != n+touches {
		t.Fatalf("Step touched %d, want %d", m.Touched()-n, touches)
	}
	if !slices.Equal(m.Words(), was) {
		t.Fatalf("Step changed %v to %v", was, m.Words())
	}
}

// finds holds what is found against the slot and the word that ought to be, twice, since who only asks changes nothing.
func finds(t *testing.T, f *find.Find, i, w int) {
	t.Helper()
	for range 2 {
		if a, b, ok := f.Found(); a != i || b != w || !ok {
			t.Fatalf("Found: %d, %d, %t, want %d, %d", a, b, ok, i, w)
		}
	}
}

// findsNone holds that nothing is found.
func findsNone(t *testing.T, f *find.Find) {
	t.Helper()
	for range 2 {
		if a, b, ok := f.Found(); a != 0 || b != 0 || ok {
			t.Fatalf("Found: %d, %d, %t, want none", a, b, ok)
		}
	}
}

// TestNumbers: the numbers that the chapter gives.
func TestNumbers(t *testing.T) {
	got := []int{find.Own, find.Any, find.Free, find.Some, find.Swept, find.Old, find.Rests}
	if want := []int{0, 1, 2, 3, 4, 5, 6}; !slices.Equal(got, want) {
		t.Errorf("%v, want %v", got, want)
	}
}

// TestExample: the chapter's.
func TestExample(t *testing.T) {
	c := api.Conf{Workers: 2, Slots: 3, Uses: 1}
	own := word(t, api.Slot{State: api.Idle})
	m := laid(t, c, 0, word(t, api.Slot{State: api.Idle, Own: 1}), own)
	f := find.New(c, find.Own, 0, 0)
	findsNone(t, f)
	steps(t, f, m, false, 1)
	findsNone(t, f)
	steps(t, f, m, false, 1)
	findsNone(t, f)
	steps(t, f, m, true, 1)
	finds(t, f, 2, own)
}

// TestFitsByHand: P14.1, each kind by the slots that fit it, and some that nearly do.
func TestFitsByHand(t *testing.T) {
	all := []api.Slot{
		{State: api.Empty},
		{State: api.Dialing, Own: 1},
		{State: api.Idle, Own: 1},
		{State: api.Idle, Own: 2},
		{State: api.Idle, Own: 1, Broken: true},
		{State: api.Idle, Own: 2, Broken: true},
		{State: api.Idle, Own: 1, Marked: true},
		{State: api.Leased, Own: 1},
		{State: api.Leased, Own: 1, Broken: true},
		{State: api.Kept, Own: 1},
		{State: api.Kept, Own: 1, Broken: true},
		{State: api.Held, Own: 1},
		{State: api.Limbo},
	}
	for _, x := range []struct {
		kind, own int
		want      []int
	}{
		{find.Own, 1, []int{2, 6}},
		{find.Own, 2, []int{3}},
		{find.Own, 0, nil},
		{find.Own, -1, nil},
		{find.Any, 1, []int{2, 3, 6}},
		{find.Any, 9, []int{2, 3, 6}},
		{find.Free, 1, []int{0}},
		{find.Some, 1, []int{0, 2, 3, 6}},
		{find.Some, 0, []int{0, 2, 3, 6}},
		{find.Swept, 0, []int{4, 5}},
		{find.Swept, 1, []int{2, 3, 4, 5, 6}},
		{find.Swept, 2, []int{2, 3, 4, 5, 6, 7, 8}},
		{find.Swept, 3, []int{4, 5}},
		{find.Swept, -1, []int{4, 5}},
		{find.Old, 1, []int{12}},
		{find.Rests, 0, []int{2, 3, 4, 5, 6}},
		{-1, 1, nil},
		{7, 1, nil},
	} {
		var got []int
		for i, s := range all {
			if find.Fits(s, x.kind, x.own) {
				got = append(got, i)
			}
		}
		if !slices.Equal(got, x.want) {
			t.Errorf("kind %d, own %d: %v, want %v", x.kind, x.own, got, x.want)
		}
	}
}

// TestFits: P14.1, of all kinds, and of numbers that are none; what isn't named isn't asked, and the slot needn't be right.
func TestFits(t *testing.T) {
	rests := []api.Slot{
		{},
		{Streams: 255, Uses: 63, Gen: 4095, Epoch: 4095, Version: 32767},
		{Marked: true},
		{Marked: true, Streams: -1, Uses: 64, Gen: math.MaxInt, Epoch: math.MinInt, Version: 32768},
	}
	for _, state := range edges {
		for _, whose := range edges {
			for _, broken := range []bool{false, true} {
				for _, s := range rests {
					s.State, s.Own, s.Broken = state, whose, broken
					for _, kind := range edges {
						for _, own := range edges {
							if got := find.Fits(s, kind, own); got != fits(s, kind, own) {
								t.Fatalf("Fits(%+v, %d, %d): %t", s, kind, own, got)
							}
						}
					}
				}
			}
		}
	}
}

// TestFrom: P14.1, from each slot, from below the first one, and from behind the last one, of confs of all sizes; P14.2, the last step tells that all have been looked at, and those behind it touch nothing.
func TestFrom(t *testing.T) {
	for slots := 1; slots <= 16; slots++ {
		for _, workers := range []int{1, 2, 8} {
			c := api.Conf{Workers: workers, Slots: slots, Streams: 8, Waiters: 8, Uses: 60}
			m := laid(t, c)
			for _, from := range append([]int{slots - 1, slots, slots + 1}, edges...) {
				f := find.New(c, find.Own, 1, from)
				findsNone(t, f)
				many := slots - min(max(from, 0), slots)
				for i := range many {
					steps(t, f, m, i == many-1, 1)
					findsNone(t, f)
				}
				for range 2 {
					steps(t, f, m, true, 0)
					f.Again()
					f.Go()
					findsNone(t, f)
				}
			}
		}
	}
}

// TestFromFinds: P14.1, the first slot that is looked at is the one from which on it looks.
func TestFromFinds(t *testing.T) {
	c := api.Conf{Workers: 8, Slots: 16, Uses: 1}
	var words []int
	for i := range c.Slots {
		words = append(words, word(t, api.Slot{State: api.Limbo, Version: 1 + i}))
	}
	m := laid(t, c, words...)
	for _, from := range edges {
		f := find.New(c, find.Old, 0, from)
		if from >= c.Slots {
			steps(t, f, m, true, 0)
			findsNone(t, f)
			continue
		}
		steps(t, f, m, true, 1)
		finds(t, f, max(from, 0), words[max(from, 0)])
	}
}

// TestFoundStays: P14.2, while a slot is found nothing is touched, and what others make of that slot isn't seen.
func TestFoundStays(t *testing.T) {
	c := api.Conf{Workers: 1, Slots: 2, Uses: 1}
	idle := word(t, api.Slot{State: api.Idle, Uses: 3, Version: 9})
	m := laid(t, c, idle, idle)
	f := find.New(c, find.Any, 0, 0)
	steps(t, f, m, true, 1)
	m.Store(conf.Slot(c, 0), 0)
	for range 3 {
		steps(t, f, m, true, 0)
		finds(t, f, 0, idle)
	}
}

// TestNoSlots: P14.2, a word that is no slot's fits no kind, though one that is decoded nevertheless would be Empty, or Idle, or any other.
func TestNoSlots(t *testing.T) {
	c := api.Conf{Workers: 1, Slots: 1, Uses: 1}
	words := []int{-1, 7, math.MinInt, math.MaxInt, 1 << 62, 1 << 3, 1 << 7, 1 << 15, 1<<35 | 2, 1<<62 | 131098}
	for state := range 7 {
		words = append(words, math.MinInt|state)
	}
	for _, w := range words {
		if s, ok := slot.Decode(w); ok {
			t.Fatalf("%d is the word of %+v", w, s)
		}
		m := laid(t, c, w)
		for kind := -1; kind <= 7; kind++ {
			for own := range 3 {
				f := find.New(c, kind, own, 0)
				steps(t, f, m, true, 1)
				findsNone(t, f)
				steps(t, f, m, true, 0)
			}
		}
	}
}

// TestAgain: P14.3, the slot that was found is looked at next, and found as it is then, or passed, if it doesn't fit any more.
func TestAgain(t *testing.T) {
	c := api.Conf{Workers: 1, Slots: 3, Uses: 1}
	first, then := word(t, api.Slot{State: api.Idle}), word(t, api.Slot{State: api.Idle, Version: 1})
	m := laid(t, c, 0, first, first)
	f := find.New(c, find.Own, 0, 0)
	f.Again()
	steps(t, f, m, false, 1)
	f.Again()
	steps(t, f, m, true, 1)
	finds(t, f, 1, first)
	m.Store(conf.Slot(c, 1), then)
	f.Again()
	findsNone(t, f)
	f.Again()
	steps(t, f, m, true, 1)
	finds(t, f, 1, then)
	m.Store(conf.Slot(c, 1), 0)
	f.Again()
	steps(t, f, m, false, 1)
	findsNone(t, f)
	f.Again()
	steps(t, f, m, true, 1)
	finds(t, f, 2, first)
	f.Again()
	steps(t, f, m, true, 1)
	finds(t, f, 2, first)
	m.Store(conf.Slot(c, 2), 0)
	f.Again()
	steps(t, f, m, true, 1)
	findsNone(t, f)
	steps(t, f, m, true, 0)
}

// TestGo: P14.3, the slot that was found is passed, whatever it is then; where nothing is found, none is. Behind the last slot one step more touches nothing.
func TestGo(t *testing.T) {
	c := api.Conf{Workers: 1, Slots: 4, Uses: 1}
	idle := word(t, api.Slot{State: api.Idle})
	m := laid(t, c, idle, idle, 0, idle)
	f := find.New(c, find.Rests, 0, 0)
	f.Go()
	steps(t, f, m, true, 1)
	finds(t, f, 0, idle)
	f.Go()
	findsNone(t, f)
	f.Go()
	f.Again()
	findsNone(t, f)
	steps(t, f, m, true, 1)
	finds(t, f, 1, idle)
	f.Go()
	steps(t, f, m, false, 1)
	findsNone(t, f)
	f.Go()
	steps(t, f, m, true, 1)
	finds(t, f, 3, idle)
	f.Go()
	findsNone(t, f)
	steps(t, f, m, true, 0)
	findsNone(t, f)
	f.Go()
	f.Again()
	steps(t, f, m, true, 0)
	findsNone(t, f)
}

// some is any word: of any right slot, or of none.
func some(r *rand.Rand) int {
	s := api.Slot{State: r.IntN(7), Own: r.IntN(4), Broken: r.IntN(2) == 0, Marked: r.IntN(4) == 0, Version: r.IntN(32768)}
	if w, ok := slot.Encode(s); ok {
		return w
	}
	if w, ok := slot.Encode(api.Slot{State: s.State, Version: s.Version}); ok && r.IntN(4) > 0 {
		return w
	}
	return int(r.Uint64()) >> r.IntN(64)
}

// TestAlone: P14.4, the first slot that fits is found, with as many steps as slots are looked at, and so is each next one.
func TestAlone(t *testing.T) {
	r := rand.New(rand.NewPCG(14, 4))
	for range 20000 {
		c := api.Conf{Workers: 1 + r.IntN(8), Slots: 1 + r.IntN(16), Uses: 1}
		var words []int
		for range c.Slots {
			words = append(words, some(r))
		}
		m := laid(t, c, words...)
		kind, own := r.IntN(9)-1, r.IntN(4)
		f := find.New(c, kind, own, 0)
		for i, w := range words {
			s, ok := slot.Decode(w)
			ok = ok && fits(s, kind, own)
			if !ok && i < c.Slots-1 {
				steps(t, f, m, false, 1)
				findsNone(t, f)
				continue
			}
			steps(t, f, m, true, 1)
			if ok {
				finds(t, f, i, w)
				f.Go()
			}
		}
		findsNone(t, f)
		steps(t, f, m, true, 0)
	}
}

// A look is what a Find ought to be: what it has looked at are the slots below next, of which it has found one, or none.
type look struct {
	c         api.Conf
	kind, own int
	next      int
	found     bool
	word      int
}

// step is what Step ought to answer, and how many cells it ought to touch.
func (l *look) step(words []int) (bool, int) {
	if l.found || l.next >= l.c.Slots {
		return true, 0
	}
	w := words[3+2*l.c.Workers+l.next]
	if s, ok := slot.Decode(w); ok && fits(s, l.kind, l.own) {
		l.found, l.word = true, w
		return true, 1
	}
	l.next++
	return l.next >= l.c.Slots, 1
}

// TestAmidOthers: P14.2, P14.3, whatever is done with several of one memory, in whatever order, while others change slots: each is by itself.
func TestAmidOthers(t *testing.T) {
	r := rand.New(rand.NewPCG(14, 2))
	for range 5000 {
		c := api.Conf{Workers: 1 + r.IntN(8), Slots: 1 + r.IntN(16), Uses: 1}
		m := laid(t, c)
		var l []*look
		var fs []*find.Find
		for range 3 {
			x := &look{c: c, kind: r.IntN(7), own: r.IntN(4), next: r.IntN(3)}
			l, fs = append(l, x), append(fs, find.New(c, x.kind, x.own, x.next))
		}
		for range 100 {
			i := r.IntN(3)
			x, f := l[i], fs[i]
			switch r.IntN(8) {
			case 0:
				f.Again()
				x.found = false
			case 1:
				f.Go()
				if x.found {
					x.found = false
					x.next++
				}
			case 2, 3, 4:
				m.Store(conf.Slot(c, r.IntN(c.Slots)), some(r))
			default:
				want, touches := x.step(m.Words())
				steps(t, f, m, want, touches)
			}
			for k := range fs {
				if l[k].found {
					finds(t, fs[k], l[k].next, l[k].word)
				} else {
					findsNone(t, fs[k])
				}
			}
		}
	}
}

// TestOtherMemory: R6, what is looked at is the memory that is handed in with each step; what was found of another one stays found.
func TestOtherMemory(t *testing.T) {
	c := api.Conf{Workers: 2, Slots: 2, Uses: 1}
	limbo := word(t, api.Slot{State: api.Limbo, Epoch: 7})
	with, without := laid(t, c, 0, limbo), laid(t, c)
	f, g := find.New(c, find.Old, 0, 0), find.New(c, find.Old, 0, 0)
	steps(t, f, without, false, 1)
	steps(t, f, with, true, 1)
	finds(t, f, 1, limbo)
	steps(t, f, without, true, 0)
	finds(t, f, 1, limbo)
	steps(t, g, with, false, 1)
	steps(t, g, without, true, 1)
	findsNone(t, g)
}

// TestAnything: R1, of confs that aren't right, and of any numbers, no call panics.
func TestAnything(t *testing.T) {
	m, _ := cells.New(40)
	for _, n := range edges {
		for _, from := range edges {
			c := api.Conf{Workers: n, Slots: from, Uses: n}
			f := find.New(c, from, n, from)
			for range 3 {
				f.Step(m)
				f.Found()
				f.Again()
				f.Step(m)
				f.Go()
			}
		}
	}
}
