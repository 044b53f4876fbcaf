package retire_test

import (
	"math"
	"math/rand/v2"
	"slices"
	"testing"

	"coachhouse/api"
	"coachhouse/cells"
	"coachhouse/conf"
	"coachhouse/retire"
	"coachhouse/slot"
)

// lastEpoch is the chapter's MaxEpoch.
const lastEpoch = 4095

// two is a conf of two slots.
var two = api.Conf{Workers: 3, Slots: 2, Streams: 8, Waiters: 2, Uses: 60}

// word is a right slot's.
func word(t *testing.T, s api.Slot) int {
	t.Helper()
	w, ok := slot.Encode(s)
	if !ok {
		t.Fatalf("%+v isn't right", s)
	}
	return w
}

// limbo is the word of a slot that was retired.
func limbo(t *testing.T, gen, epoch, version int) int {
	t.Helper()
	return word(t, api.Slot{State: api.Limbo, Gen: gen, Epoch: epoch, Version: version % 32768})
}

// laid is memory at an epoch with words in the slots' cells. All others have the word of an idle slot, which could be retired there, too.
func laid(t *testing.T, c api.Conf, epoch int, words ...int) *cells.Mem {
	t.Helper()
	m, e := conf.Mem(c)
	if e != api.OK {
		t.Fatal(e)
	}
	for i := range m.Many() {
		m.Store(i, word(t, api.Slot{State: api.Idle}))
	}
	m.Store(conf.Epoch, epoch)
	for i := range c.Slots {
		put(t, c, m, i, 0)
	}
	for i, w := range words {
		put(t, c, m, i, w)
	}
	return m
}

// put has a slot have a word.
func put(t *testing.T, c api.Conf, m *cells.Mem, i, w int) {
	t.Helper()
	if !m.Store(conf.Slot(c, i), w) {
		t.Fatalf("there is no slot %d", i)
	}
}

// A move is what a step ought to do: what it tells; how many cells it touches; which cell has which word then, if it changes one.
type move struct {
	done    bool
	touches int
	changes bool
	cell    int
	word    int
}

// does has r do a step, and holds what it tells, and what becomes of the memory, against what ought to be.
func does(t *testing.T, r *retire.Retire, m *cells.Mem, want move) {
	t.Helper()
	then, n := m.Words(), m.Touched()
	if want.changes {
		then[want.cell] = want.word
	}
	if got := r.Step(m); got != want.done {
		t.Fatalf("Step: %t, want %t", got, want.done)
	}
	if m.Touched() != n+want.touches {
		t.Fatalf("Step touched %d, want %d", m.Touched()-n, want.touches)
	}
	if !slices.Equal(m.Words(), then) {
		t.Fatalf("the memory: %v, want %v", m.Words(), then)
	}
}

// is holds what Done tells against what ought to be, twice, since who only asks changes nothing.
func is(t *testing.T, r *retire.Retire, swapped, done bool) {
	t.Helper()
	for range 2 {
		if a, b := r.Done(); a != swapped || b != done {
			t.Fatalf("Done: %t, %t, want %t, %t", a, b, swapped, done)
		}
	}
}

// swaps has r do the first step, which ought to have its slot have a word.
func swaps(t *testing.T, r *retire.Retire, c api.Conf, m *cells.Mem, i, w int) {
	t.Helper()
	is(t, r, false, false)
	does(t, r, m, move{touches: 1, changes: true, cell: conf.Slot(c, i), word: w})
	is(t, r, true, false)
}

// looks has r do the second one.
func looks(t *testing.T, r *retire.Retire, m *cells.Mem) {
	t.Helper()
	does(t, r, m, move{touches: 1})
	is(t, r, true, false)
}

// dates has r do the third one, which ought to have its slot have a word.
func dates(t *testing.T, r *retire.Retire, c api.Conf, m *cells.Mem, i, w int) {
	t.Helper()
	does(t, r, m, move{touches: 1, changes: true, cell: conf.Slot(c, i), word: w})
	is(t, r, true, false)
}

// ends has r do the fourth one, and some behind it.
func ends(t *testing.T, r *retire.Retire, m *cells.Mem) {
	t.Helper()
	does(t, r, m, move{done: true, touches: 1, changes: true, cell: conf.Epoch, word: m.Words()[conf.Epoch] + 1})
	rests(t, r, m, true)
}

// rests holds that r is done, and touches nothing any more.
func rests(t *testing.T, r *retire.Retire, m *cells.Mem, swapped bool) {
	t.Helper()
	for range 3 {
		is(t, r, swapped, true)
		does(t, r, m, move{done: true})
	}
	is(t, r, swapped, true)
}

// TestExample: the chapter's.
func TestExample(t *testing.T) {
	idle := word(t, api.Slot{State: api.Idle})
	m := laid(t, two, 3, idle)
	r := retire.New(two, 0, idle)
	for i := range 4 {
		if got := r.Step(m); got != (i == 3) {
			t.Errorf("step %d: %t", i, got)
		}
	}
	if s, ok := slot.Decode(m.Load(conf.Slot(two, 0))); !ok || s != (api.Slot{State: api.Limbo, Epoch: 3, Version: 2}) {
		t.Errorf("%+v, %t", s, ok)
	}
	if e := m.Load(conf.Epoch); e != 4 {
		t.Errorf("the epoch: %d", e)
	}
}

// retirable are slots that can be retired: all Idle and Leased ones of a kind.
func retirable() []api.Slot {
	var l []api.Slot
	for own := range 16 {
		for _, broken := range []bool{false, true} {
			for _, n := range []int{0, 1, 63} {
				for _, gen := range []int{0, 1, 4094, 4095} {
					for _, version := range []int{0, 1, 32765, 32766, 32767} {
						s := api.Slot{Own: own, Broken: broken, Uses: n, Gen: gen, Version: version}
						idle, marked, leased, streaming := s, s, s, s
						idle.State = api.Idle
						marked.State, marked.Marked = api.Idle, true
						leased.State = api.Leased
						streaming.State, streaming.Streams = api.Leased, 255-n
						l = append(l, idle, marked, leased, streaming)
					}
				}
			}
		}
	}
	return l
}

// TestSteps: P16.1, the four steps, of each kind of slot that can be retired; of whomever it is, it is retired of owner 0, and only Gen and Version stay of it.
func TestSteps(t *testing.T) {
	for n, s := range retirable() {
		w := word(t, s)
		epoch := n % (lastEpoch + 1)
		i := n % 2
		words := []int{w, w}
		m := laid(t, two, epoch, words...)
		r := retire.New(two, i, w)
		swaps(t, r, two, m, i, limbo(t, s.Gen, lastEpoch, s.Version+1))
		looks(t, r, m)
		dates(t, r, two, m, i, limbo(t, s.Gen, epoch, s.Version+2))
		ends(t, r, m)
	}
}

// TestPlaces: P16.1, each slot of confs of all sizes, of which no other one's cell is touched.
func TestPlaces(t *testing.T) {
	w := word(t, api.Slot{State: api.Leased, Own: 2, Uses: 5, Gen: 9, Version: 100})
	for workers := 1; workers <= 8; workers++ {
		for slots := 1; slots <= 16; slots++ {
			c := api.Conf{Workers: workers, Slots: slots, Uses: 1}
			m := laid(t, c, 20)
			for i := range slots {
				put(t, c, m, i, w)
			}
			for i := range slots {
				r := retire.New(c, i, w)
				swaps(t, r, c, m, i, limbo(t, 9, lastEpoch, 101))
				looks(t, r, m)
				dates(t, r, c, m, i, limbo(t, 9, 20+i, 102))
				ends(t, r, m)
			}
		}
	}
}

// TestCantBe: P16.1, a slot in any other state can't be retired, though it still has the word: nothing is touched.
func TestCantBe(t *testing.T) {
	for _, s := range []api.Slot{
		{},
		{State: api.Empty, Gen: 4095, Version: 32767},
		{State: api.Dialing, Own: 0},
		{State: api.Dialing, Own: 15, Gen: 1, Version: 7},
		{State: api.Kept, Own: 0, Uses: 1},
		{State: api.Kept, Own: 3, Broken: true, Uses: 63, Gen: 1, Version: 7},
		{State: api.Held, Own: 0},
		{State: api.Held, Own: 4, Gen: 1, Version: 7},
		{State: api.Limbo},
		{State: api.Limbo, Epoch: lastEpoch, Gen: 1, Version: 7},
	} {
		w := word(t, s)
		for i := range 2 {
			m := laid(t, two, 3, w, w)
			r := retire.New(two, i, w)
			is(t, r, false, false)
			rests := move{done: true}
			does(t, r, m, rests)
			is(t, r, false, true)
			put(t, two, m, i, word(t, api.Slot{State: api.Idle}))
			for range 3 {
				does(t, r, m, rests)
				is(t, r, false, true)
			}
		}
	}
}

// TestNoSlotsWord: P16.1, a word that is no slot's can't be retired, though the cell has it: nothing is touched.
func TestNoSlotsWord(t *testing.T) {
	idle := word(t, api.Slot{State: api.Idle})
	leased := word(t, api.Slot{State: api.Leased})
	for _, w := range []int{
		-1, 7, 15, math.MinInt, math.MaxInt,
		idle | 1<<7, idle | 128<<7, // with streams
		idle | 1<<35, leased | 1<<46, // with an epoch
		idle | 1<<62, idle | math.MinInt, leased | 1<<62, leased | math.MinInt, // with bits of no field
		leased | 1<<16, // marked
	} {
		m := laid(t, two, 3, w, w)
		r := retire.New(two, 1, w)
		is(t, r, false, false)
		does(t, r, m, move{done: true})
		rests(t, r, m, false)
	}
}

// TestOtherWord: P16.1, where the cell has another word, that differs in whatever, the swap fails: the cell is touched once, and nothing is changed.
func TestOtherWord(t *testing.T) {
	s := api.Slot{State: api.Idle, Own: 2, Uses: 3, Gen: 4, Version: 5}
	w := word(t, s)
	for bit := range 64 {
		m := laid(t, two, 3, w^1<<bit, w)
		r := retire.New(two, 0, w)
		is(t, r, false, false)
		does(t, r, m, move{done: true, touches: 1})
		rests(t, r, m, false)
	}
	m := laid(t, two, 3, w, w)
	m.Store(conf.Slot(two, 1), 0)
	r := retire.New(two, 1, w)
	does(t, r, m, move{done: true, touches: 1})
	put(t, two, m, 1, w)
	rests(t, r, m, false)
}

// TestLateWord: P16.1, what the cell had when it was made makes no difference: what it has at the first step counts.
func TestLateWord(t *testing.T) {
	w := word(t, api.Slot{State: api.Idle, Own: 1})
	m := laid(t, two, 3)
	r := retire.New(two, 1, w)
	put(t, two, m, 1, w)
	swaps(t, r, two, m, 1, limbo(t, 0, lastEpoch, 1))
}

// TestEpochs: P16.1, each epoch that a slot may have is the slot's, the last one, too; with another number there the third step touches nothing, and the slot stays of the last epoch; the fourth step adds 1 to each, and goes round.
func TestEpochs(t *testing.T) {
	w := word(t, api.Slot{State: api.Leased, Own: 15, Streams: 3, Gen: 2, Version: 6})
	for _, epoch := range []int{0, 1, 2, 63, 64, 2048, lastEpoch - 1, lastEpoch} {
		m := laid(t, two, epoch, 0, w)
		r := retire.New(two, 1, w)
		swaps(t, r, two, m, 1, limbo(t, 2, lastEpoch, 7))
		looks(t, r, m)
		dates(t, r, two, m, 1, limbo(t, 2, epoch, 8))
		ends(t, r, m)
	}
	for _, epoch := range []int{-1, -lastEpoch, math.MinInt, lastEpoch + 1, lastEpoch + 2, 5000, 1 << 12, 1 << 40, 1 << 62, math.MaxInt} {
		m := laid(t, two, epoch, 0, w)
		r := retire.New(two, 1, w)
		swaps(t, r, two, m, 1, limbo(t, 2, lastEpoch, 7))
		looks(t, r, m)
		does(t, r, m, move{})
		is(t, r, true, false)
		ends(t, r, m)
	}
}

// TestWhichEpoch: P16.1, the slot's epoch is that of the second step: one that was there ahead of it, or is there behind it, isn't seen; and 1 is added to that of the fourth one.
func TestWhichEpoch(t *testing.T) {
	w := word(t, api.Slot{State: api.Idle})
	m := laid(t, two, 10, w)
	r := retire.New(two, 0, w)
	m.Store(conf.Epoch, 20)
	swaps(t, r, two, m, 0, limbo(t, 0, lastEpoch, 1))
	m.Store(conf.Epoch, 30)
	looks(t, r, m)
	m.Store(conf.Epoch, 40)
	dates(t, r, two, m, 0, limbo(t, 0, 30, 2))
	m.Store(conf.Epoch, 50)
	ends(t, r, m)
	if e := m.Load(conf.Epoch); e != 51 {
		t.Errorf("the epoch: %d, want 51", e)
	}
}

// TestChangedAmid: P16.1, where somebody else changed the slot amid this the third step's swap fails, that touches the cell once; the epoch goes on nevertheless.
func TestChangedAmid(t *testing.T) {
	w := word(t, api.Slot{State: api.Idle, Gen: 6})
	for _, other := range []int{
		w,
		0,
		-1,
		math.MinInt,
		limbo(t, 6, lastEpoch, 2),
		limbo(t, 6, 3, 1),
		limbo(t, 6, 3, 2),
		word(t, api.Slot{Gen: 6, Version: 2}),
		word(t, api.Slot{State: api.Idle, Gen: 6, Version: 1}),
	} {
		for when := range 2 {
			m := laid(t, two, 3, w, w)
			r := retire.New(two, 0, w)
			swaps(t, r, two, m, 0, limbo(t, 6, lastEpoch, 1))
			if when == 0 {
				put(t, two, m, 0, other)
			}
			looks(t, r, m)
			put(t, two, m, 0, other)
			does(t, r, m, move{touches: 1})
			is(t, r, true, false)
			ends(t, r, m)
		}
	}
}

// TestDoneStays: P16.1, behind that nothing is touched, whatever others make of the slot, also when it has the word again.
func TestDoneStays(t *testing.T) {
	w := word(t, api.Slot{State: api.Idle})
	m := laid(t, two, 3, w)
	r := retire.New(two, 0, w)
	swaps(t, r, two, m, 0, limbo(t, 0, lastEpoch, 1))
	looks(t, r, m)
	dates(t, r, two, m, 0, limbo(t, 0, 3, 2))
	ends(t, r, m)
	for _, other := range []int{w, limbo(t, 0, lastEpoch, 1), 0} {
		put(t, two, m, 0, other)
		m.Store(conf.Epoch, 9)
		rests(t, r, m, true)
	}
}

// TestOtherMemory: R6, what is touched is the memory that is handed in with each step.
func TestOtherMemory(t *testing.T) {
	w := word(t, api.Slot{State: api.Leased, Own: 1, Gen: 1})
	a, b := laid(t, two, 3, w), laid(t, two, 8, limbo(t, 1, lastEpoch, 1))
	r := retire.New(two, 0, w)
	swaps(t, r, two, a, 0, limbo(t, 1, lastEpoch, 1))
	looks(t, r, b)
	dates(t, r, two, b, 0, limbo(t, 1, 8, 2))
	ends(t, r, a)
}

// orders tells all orders in which two that do four steps each can be picked.
func orders(a, b int, ahead []int, use func(order []int)) {
	if a == 0 && b == 0 {
		use(ahead)
		return
	}
	if a > 0 {
		orders(a-1, b, append(slices.Clone(ahead), 0), use)
	}
	if b > 0 {
		orders(a, b-1, append(slices.Clone(ahead), 1), use)
	}
}

// TestTwoOfOneSlot: P16.2, of two that retire one slot by the same word the one that steps first alone succeeds, in all orders.
func TestTwoOfOneSlot(t *testing.T) {
	w := word(t, api.Slot{State: api.Idle, Own: 2, Gen: 7, Version: 32767})
	n := 0
	orders(4, 4, nil, func(order []int) {
		n++
		m := laid(t, two, 5, 0, w)
		l := []*retire.Retire{retire.New(two, 1, w), retire.New(two, 1, w)}
		for _, who := range order {
			l[who].Step(m)
		}
		rests(t, l[order[0]], m, true)
		rests(t, l[1-order[0]], m, false)
		if got, want := m.Load(conf.Slot(two, 1)), limbo(t, 7, 5, 1); got != want {
			t.Fatalf("%v: the slot's word %d, want %d", order, got, want)
		}
		if e := m.Load(conf.Epoch); e != 6 {
			t.Fatalf("%v: the epoch %d, want 6", order, e)
		}
	})
	if n != 70 {
		t.Errorf("%d orders", n)
	}
}

// TestTwoSlots: P16.2, two that retire a slot each both succeed, in all orders; each slot's epoch is one that there was behind its swap, and all the epochs are later ones in the end.
func TestTwoSlots(t *testing.T) {
	w := word(t, api.Slot{State: api.Leased, Own: 2, Gen: 7})
	orders(4, 4, nil, func(order []int) {
		m := laid(t, two, 5, w, w)
		l := []*retire.Retire{retire.New(two, 0, w), retire.New(two, 1, w)}
		steps, saw := [2]int{}, [2]int{}
		epoch := 5
		for _, who := range order {
			steps[who]++
			if steps[who] == 2 {
				saw[who] = epoch
			}
			if steps[who] == 4 {
				epoch++
			}
			l[who].Step(m)
		}
		for i := range l {
			rests(t, l[i], m, true)
			if got, want := m.Load(conf.Slot(two, i)), limbo(t, 7, saw[i], 2); got != want {
				t.Fatalf("%v: the word %d of slot %d, want %d", order, got, i, want)
			}
		}
		if e := m.Load(conf.Epoch); e != 7 {
			t.Fatalf("%v: the epoch %d, want 7", order, e)
		}
	})
}

// A task is a Retire that is under way: its slot, and the word of that; how many steps it has done; and which epochs there were since its swap.
type task struct {
	*retire.Retire
	slot, word, steps int
	since             []int
}

// A game is a memory in which many retire slots, amid others; and what came of the Retires: how often one succeeded, by its slot and word, and how many didn't.
type game struct {
	c    api.Conf
	m    *cells.Mem
	l    []*task
	won  map[[2]int]int
	lost int
}

// begins has one more Retire begin, of what some slot has now.
func (g *game) begins(i int) {
	w := g.m.Load(conf.Slot(g.c, i))
	g.l = append(g.l, &task{Retire: retire.New(g.c, i, w), slot: i, word: w})
}

// anew has a slot that is in limbo be idle again, in its next version.
func (g *game) anew(t *testing.T, i int) {
	t.Helper()
	s, _ := slot.Decode(g.m.Load(conf.Slot(g.c, i)))
	if s.State == api.Limbo {
		put(t, g.c, g.m, i, word(t, api.Slot{State: api.Idle, Own: i, Gen: s.Gen, Version: (s.Version + 1) % 32768}))
	}
}

// remembers has those that swapped know which epoch it is.
func (g *game) remembers() {
	for _, x := range g.l {
		if x.steps > 0 {
			x.since = append(x.since, g.m.Load(conf.Epoch))
		}
	}
}

// picks has the k-th Retire do a step, and holds what comes of it against P16.2.
func (g *game) picks(t *testing.T, k int) {
	t.Helper()
	x := g.l[k]
	was := g.m.Load(conf.Slot(g.c, x.slot))
	done := x.Step(g.m)
	x.steps++
	swapped, _ := x.Done()
	s, _ := slot.Decode(g.m.Load(conf.Slot(g.c, x.slot)))
	switch x.steps {
	case 1:
		g.first(t, x, was, swapped)
	case 3:
		if s.State == api.Limbo && s.Epoch != lastEpoch && !slices.Contains(x.since, s.Epoch) {
			t.Fatalf("the slot's epoch %d, since the swap there were %v", s.Epoch, x.since)
		}
	case 4:
		if e := g.m.Load(conf.Epoch); !done || e <= slices.Max(x.since) {
			t.Fatalf("done: %t, at the epoch %d, since the swap there were %v", done, e, x.since)
		}
	}
	if done {
		g.l = slices.Delete(g.l, k, k+1)
	}
}

// first holds that what was swapped had the word, and that no other one of that word succeeded.
func (g *game) first(t *testing.T, x *task, was int, swapped bool) {
	t.Helper()
	if !swapped {
		g.lost++
		return
	}
	one := [2]int{x.slot, x.word}
	g.won[one]++
	if g.won[one] > 1 || was != x.word {
		t.Fatalf("%d succeeded of the word %d, the last one at the word %d", g.won[one], x.word, was)
	}
}

// TestAmidOthers: P16.2, where many retire slots, amid others that have the epoch go on, and use retired slots again: of one word one alone succeeds; a retired slot's epoch is one that there was behind the swap, or the last one; and when one is done the epoch is later.
func TestAmidOthers(t *testing.T) {
	r := rand.New(rand.NewPCG(16, 1))
	won, lost := 0, 0
	for range 3000 {
		c := api.Conf{Workers: 1 + r.IntN(8), Slots: 1 + r.IntN(4), Uses: 1}
		g := &game{c: c, m: laid(t, c, r.IntN(lastEpoch+20)), won: map[[2]int]int{}}
		for i := range c.Slots {
			put(t, c, g.m, i, word(t, api.Slot{State: api.Idle, Own: i}))
		}
		for range 200 {
			g.remembers()
			switch n := r.IntN(10); {
			case n == 0:
				g.m.Add(conf.Epoch, 1)
			case n == 1:
				g.anew(t, r.IntN(c.Slots))
			case n-1 > len(g.l):
				g.begins(r.IntN(c.Slots))
			case len(g.l) > 0:
				g.picks(t, r.IntN(len(g.l)))
			}
		}
		won, lost = won+len(g.won), lost+g.lost
	}
	if won == 0 || lost == 0 {
		t.Errorf("%d succeeded, %d didn't", won, lost)
	}
}

// TestAnything: R1, of confs, slots and words of any numbers no call panics; where there is no such slot nothing is touched.
func TestAnything(t *testing.T) {
	edges := []int{math.MinInt, math.MinInt + 1, -1 << 32, -1, 0, 1, 2, 8, 9, 15, 16, 17, 60, 61, 1 << 32, 1 << 62, math.MaxInt}
	idle := word(t, api.Slot{State: api.Idle})
	m, _ := cells.New(40)
	for _, workers := range edges {
		for _, slots := range edges {
			for _, i := range edges {
				c := api.Conf{Workers: workers, Slots: slots, Uses: 1}
				for _, w := range []int{idle, i, i ^ idle} {
					for cell := range m.Many() {
						m.Store(cell, w)
					}
					r := retire.New(c, i, w)
					if conf.Slot(c, i) < 0 {
						does(t, r, m, move{done: true})
						rests(t, r, m, false)
						continue
					}
					for range 5 {
						r.Step(m)
					}
					if _, done := r.Done(); !done {
						t.Fatalf("%+v, slot %d, word %d: it isn't done", c, i, w)
					}
				}
			}
		}
	}
}
