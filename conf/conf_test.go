package conf_test

import (
	"math"
	"math/rand/v2"
	"slices"
	"testing"

	"coachhouse/api"
	"coachhouse/conf"
	"coachhouse/slot"
)

// example is the chapter's.
var example = api.Conf{Workers: 2, Slots: 3, Streams: 8, Waiters: 8, Uses: 60}

// edges are numbers at the edges of an int, and of what a conf may have.
var edges = []int{math.MinInt, math.MinInt + 1, -1 << 62, -1 << 32, -17, -9, -3, -2, -1, 0, 1, 2, 7, 8, 9, 15, 16, 17, 59, 60, 61, 63, 1 << 32, 1<<32 + 1, 1 << 62, math.MaxInt - 2, math.MaxInt}

// right tells whether a conf is, as the chapter has it.
func right(c api.Conf) bool {
	return c.Workers >= 1 && c.Workers <= 8 && c.Slots >= 1 && c.Slots <= 16 && c.Streams >= 0 && c.Streams <= 8 && c.Waiters >= 0 && c.Waiters <= 8 && c.Uses >= 1 && c.Uses <= 60
}

// numbers are a conf's, each to be set.
func numbers(c *api.Conf) []*int {
	return []*int{&c.Workers, &c.Slots, &c.Streams, &c.Waiters, &c.Uses}
}

// each does something with every right conf, as far as Workers and Slots go, with little and with much of the rest.
func each(do func(c api.Conf)) {
	for workers := 1; workers <= 8; workers++ {
		for slots := 1; slots <= 16; slots++ {
			do(api.Conf{Workers: workers, Slots: slots, Uses: 1})
			do(api.Conf{Workers: workers, Slots: slots, Streams: 8, Waiters: 8, Uses: 60})
		}
	}
}

// owners are whose each cell is, in the order of the chapter: what it is of, and of which one.
func owners(c api.Conf) (l []struct {
	what string
	who  int
}) {
	add := func(what string, many int) {
		for who := range many {
			l = append(l, struct {
				what string
				who  int
			}{what, who})
		}
	}
	add("closed", 1)
	add("queue", 1)
	add("epoch", 1)
	add("pin", c.Workers)
	add("grant", c.Workers)
	add("slot", c.Slots)
	return l
}

// cellOf asks for the cell of one.
func cellOf(t *testing.T, c api.Conf, what string, who int) int {
	t.Helper()
	switch what {
	case "closed":
		return conf.Closed
	case "queue":
		return conf.Queue
	case "epoch":
		return conf.Epoch
	case "pin":
		return conf.Pin(c, who)
	case "grant":
		return conf.Grant(c, who)
	case "slot":
		return conf.Slot(c, who)
	}
	t.Fatal(what)
	return -1
}

// TestNumbers: the numbers that the chapter gives.
func TestNumbers(t *testing.T) {
	got := []int{conf.MaxWorkers, conf.MaxSlots, conf.MaxWaiters, conf.MaxUses, conf.Closed, conf.Queue, conf.Epoch}
	if want := []int{8, 16, 8, 60, 0, 1, 2}; !slices.Equal(got, want) {
		t.Errorf("%v, want %v", got, want)
	}
}

// TestExample: the chapter's.
func TestExample(t *testing.T) {
	if n := conf.Cells(example); n != 10 {
		t.Errorf("Cells: %d, want 10", n)
	}
	got := []int{conf.Pin(example, 0), conf.Pin(example, 1), conf.Grant(example, 0), conf.Grant(example, 1), conf.Slot(example, 0), conf.Slot(example, 1), conf.Slot(example, 2)}
	if want := []int{3, 4, 5, 6, 7, 8, 9}; !slices.Equal(got, want) {
		t.Errorf("%v, want %v", got, want)
	}
}

// TestRight: P12.1, each number alone, at its edges and beyond them.
func TestRight(t *testing.T) {
	for i := range numbers(&api.Conf{}) {
		for _, base := range []api.Conf{example, {Workers: 1, Slots: 1, Uses: 1}, {Workers: 8, Slots: 16, Streams: 8, Waiters: 8, Uses: 60}} {
			for _, n := range edges {
				c := base
				*numbers(&c)[i] = n
				for range 2 {
					if got := conf.Right(c); got != right(c) {
						t.Errorf("Right(%+v): %t", c, got)
					}
				}
			}
		}
	}
	each(func(c api.Conf) {
		if !conf.Right(c) {
			t.Errorf("Right(%+v): false", c)
		}
	})
}

// TestRightRandom: P12.1, several wrong numbers at once.
func TestRightRandom(t *testing.T) {
	r := rand.New(rand.NewPCG(12, 1))
	for range 100000 {
		var c api.Conf
		for _, p := range numbers(&c) {
			*p = r.IntN(70) - 4
			if r.IntN(3) > 0 {
				*p = r.IntN(9)
			}
		}
		if got := conf.Right(c); got != right(c) {
			t.Fatalf("Right(%+v): %t", c, got)
		}
	}
}

// TestCells: P12.1, each cell is somebody's, in the chapter's order, and there are no more.
func TestCells(t *testing.T) {
	each(func(c api.Conf) {
		l := owners(c)
		if n := conf.Cells(c); n != len(l) {
			t.Errorf("Cells(%+v): %d, want %d", c, n, len(l))
		}
		for cell, o := range l {
			for range 2 {
				if got := cellOf(t, c, o.what, o.who); got != cell {
					t.Errorf("%+v: %s %d at %d, want %d", c, o.what, o.who, got, cell)
				}
			}
		}
	})
}

// TestNobody: P12.1, -1 where there is no such worker, or slot.
func TestNobody(t *testing.T) {
	each(func(c api.Conf) {
		for _, n := range append([]int{c.Workers, c.Slots, c.Workers + c.Slots}, edges...) {
			if n < 0 || n >= c.Workers {
				if pin, grant := conf.Pin(c, n), conf.Grant(c, n); pin != -1 || grant != -1 {
					t.Errorf("%+v: worker %d has the cells %d and %d", c, n, pin, grant)
				}
			}
			if n < 0 || n >= c.Slots {
				if got := conf.Slot(c, n); got != -1 {
					t.Errorf("%+v: slot %d has the cell %d", c, n, got)
				}
			}
		}
	})
}

// TestMem: P12.2, as many cells as there are, all 0, none touched, and each time memory of its own.
func TestMem(t *testing.T) {
	each(func(c api.Conf) {
		m, e := conf.Mem(c)
		if e != api.OK || m == nil {
			t.Fatalf("Mem(%+v): %v", c, e)
		}
		if m.Many() != 3+2*c.Workers+c.Slots || !slices.Equal(m.Words(), make([]int, m.Many())) || m.Touched() != 0 {
			t.Errorf("Mem(%+v): %v, touched %d", c, m.Words(), m.Touched())
		}
		m.Store(conf.Slot(c, c.Slots-1), 7)
		other, e := conf.Mem(c)
		if e != api.OK || !slices.Equal(other.Words(), make([]int, m.Many())) {
			t.Errorf("Mem(%+v) again: %v, %v", c, other.Words(), e)
		}
	})
}

// TestMemWrong: P12.2, no memory for a conf that isn't right, whatever is wrong with it.
func TestMemWrong(t *testing.T) {
	for i := range numbers(&api.Conf{}) {
		for _, n := range edges {
			c := example
			*numbers(&c)[i] = n
			m, e := conf.Mem(c)
			if right(c) && (m == nil || e != api.OK) || !right(c) && (m != nil || e != api.ErrArg) {
				t.Errorf("Mem(%+v): %v, %v", c, m != nil, e)
			}
		}
	}
	if m, e := conf.Mem(api.Conf{}); m != nil || e != api.ErrArg {
		t.Errorf("Mem of nothing: %v, %v", m != nil, e)
	}
}

// some are words as many as cells: of slots, of none, and anything.
func some(r *rand.Rand, many int) []int {
	l := make([]int, many)
	for i := range l {
		switch r.IntN(4) {
		case 0:
			l[i] = int(r.Uint64())
		case 1:
			l[i] = r.IntN(1 << 8)
		default:
			l[i], _ = slot.Encode(api.Slot{State: r.IntN(8), Gen: r.IntN(4096), Version: r.IntN(32768)})
		}
	}
	return l
}

// told is what Slots and Pins ought to answer of words that are as many as cells.
func told(c api.Conf, words []int) (slots []api.Slot, pins []int) {
	for cell, o := range owners(c) {
		switch o.what {
		case "pin":
			pins = append(pins, words[cell])
		case "slot":
			s, _ := slot.Decode(words[cell])
			slots = append(slots, s)
		}
	}
	return slots, pins
}

// TestSlotsAndPins: P12.2, of words as many as cells; they aren't changed, and are told the same again.
func TestSlotsAndPins(t *testing.T) {
	r := rand.New(rand.NewPCG(12, 2))
	each(func(c api.Conf) {
		for range 20 {
			words := some(r, conf.Cells(c))
			before := slices.Clone(words)
			slots, pins := told(c, words)
			for range 2 {
				if got := conf.Slots(c, words); !slices.Equal(got, slots) {
					t.Errorf("Slots(%+v, %v): %+v, want %+v", c, words, got, slots)
				}
				if got := conf.Pins(c, words); !slices.Equal(got, pins) {
					t.Errorf("Pins(%+v, %v): %v, want %v", c, words, got, pins)
				}
			}
			if !slices.Equal(words, before) {
				t.Fatalf("the words were changed: %v, before %v", words, before)
			}
		}
	})
}

// TestWordsByHand: P12.2, words whose slots and pins are known; no slot's are -1, 7, and an idle slot's with a bit that no field has.
func TestWordsByHand(t *testing.T) {
	c := api.Conf{Workers: 1, Slots: 5, Uses: 1}
	words := []int{1, 20, 4, -5, 9, 131098, -1, 0, 7, 1<<62 | 131098}
	if got, want := conf.Slots(c, words), []api.Slot{{State: api.Idle, Own: 3, Uses: 1}, {}, {}, {}, {}}; !slices.Equal(got, want) {
		t.Errorf("Slots: %+v, want %+v", got, want)
	}
	if got := conf.Pins(c, words); !slices.Equal(got, []int{-5}) {
		t.Errorf("Pins: %v, want -5", got)
	}
}

// TestOtherWords: P12.2, nothing of words that aren't as many as cells; those behind the list's end don't count.
func TestOtherWords(t *testing.T) {
	each(func(c api.Conf) {
		many := conf.Cells(c)
		long := slices.Repeat([]int{131098}, many+40)
		for n := range long {
			slots, pins := conf.Slots(c, long[:n]), conf.Pins(c, long[:n])
			if n == many && (len(slots) != c.Slots || len(pins) != c.Workers) {
				t.Errorf("%+v, %d words: %d slots, %d pins", c, n, len(slots), len(pins))
			}
			if n != many && (len(slots) != 0 || len(pins) != 0) {
				t.Errorf("%+v, %d words, %d cells: %d slots, %d pins", c, n, many, len(slots), len(pins))
			}
		}
		if len(conf.Slots(c, nil)) != 0 || len(conf.Pins(c, nil)) != 0 {
			t.Errorf("%+v: something of no words", c)
		}
	})
}

// TestOwnMemory: R5, who changes an answer, or adds to it, changes neither the words nor another answer.
func TestOwnMemory(t *testing.T) {
	words := []int{0, 0, 0, 6, 8, 0, 0, 131098, 131098, 131098}
	before := slices.Clone(words)
	pins, slots := conf.Pins(example, words), conf.Slots(example, words)
	pins = append(pins, 99)
	pins[0], slots[0].Own = 99, 9
	if !slices.Equal(words, before) {
		t.Errorf("the words: %v, want %v", words, before)
	}
	if got := conf.Pins(example, words); !slices.Equal(got, []int{6, 8}) {
		t.Errorf("Pins: %v, want 6, 8", got)
	}
	pins, slots = conf.Pins(example, words), conf.Slots(example, words)
	words[3], words[7] = 1, 0
	if !slices.Equal(pins, []int{6, 8}) || slots[0].Own != 3 {
		t.Errorf("with the words changed: %v, %+v", pins, slots)
	}
}

// TestWrongConfs: R1, of confs that aren't right no call panics, at any numbers; and R6, each answers the same again.
func TestWrongConfs(t *testing.T) {
	words := slices.Repeat([]int{131098}, 80)
	ask := func(c api.Conf, n int) []int {
		l := []int{conf.Cells(c), conf.Pin(c, n), conf.Grant(c, n), conf.Slot(c, n)}
		for many := range words {
			l = append(l, len(conf.Slots(c, words[:many])), len(conf.Pins(c, words[:many])))
		}
		return l
	}
	for _, workers := range edges {
		for _, slots := range edges {
			for i, n := range edges {
				c := api.Conf{Workers: workers, Slots: slots, Streams: edges[(i+5)%len(edges)], Waiters: n, Uses: edges[(i+9)%len(edges)]}
				if first, again := ask(c, n), ask(c, n); !slices.Equal(first, again) {
					t.Fatalf("%+v: %v, then %v", c, first, again)
				}
			}
		}
	}
}
