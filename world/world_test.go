package world_test

import (
	"math/rand/v2"
	"slices"
	"testing"

	"coachhouse/world"
)

// most is how much may be told ahead.
const most = 1000

// oracle is what a world ought to be.
type oracle struct {
	ahead     []bool
	good, bad int
}

// feed is what Feed ought to answer.
func (o *oracle) feed(good bool) bool {
	if len(o.ahead) == most {
		return false
	}
	o.ahead = append(o.ahead, good)
	return true
}

// next is what Next ought to answer.
func (o *oracle) next() bool {
	if len(o.ahead) == 0 {
		o.good++
		return true
	}
	good := o.ahead[0]
	o.ahead = o.ahead[1:]
	if good {
		o.good++
	} else {
		o.bad++
	}
	return good
}

// check holds all that a world tells against what it ought to be; it asks twice, since who only asks changes nothing.
func check(t *testing.T, w *world.World, o oracle) {
	t.Helper()
	for range 2 {
		if got := w.Ahead(); !slices.Equal(got, o.ahead) {
			t.Fatalf("Ahead: %v, want %v", got, o.ahead)
		}
		if good, bad := w.Asked(); good != o.good || bad != o.bad {
			t.Fatalf("Asked: %d, %d, want %d, %d", good, bad, o.good, o.bad)
		}
	}
}

// feed tells each of them ahead.
func feed(t *testing.T, w *world.World, l ...bool) {
	t.Helper()
	for i, good := range l {
		if !w.Feed(good) {
			t.Fatalf("Feed(%v), the one at %d: false", good, i)
		}
	}
}

// many are n outcomes, of which each third one is bad, from the first one on.
func many(n int) []bool {
	l := make([]bool, n)
	for i := range l {
		l[i] = i%3 != 0
	}
	return l
}

// The chapter's examples.
func TestExamples(t *testing.T) {
	w := world.New()
	feed(t, w, false)
	if w.Next() {
		t.Error("Next, of one that is false: true")
	}
	if !w.Next() {
		t.Error("Next, of none: false")
	}
}

// P11.1: 1000 are told ahead at most.
func TestMaxAhead(t *testing.T) {
	if world.MaxAhead != most {
		t.Errorf("MaxAhead: %d", world.MaxAhead)
	}
}

// P11.1: of a new one nothing is told ahead, and nothing was asked.
func TestNew(t *testing.T) {
	check(t, world.New(), oracle{})
}

// P11.1: what is told ahead stands in order; telling it asks nothing.
func TestFeed(t *testing.T) {
	w := world.New()
	l := []bool{false, true, true, false, true}
	for i, good := range l {
		feed(t, w, good)
		check(t, w, oracle{ahead: l[:i+1]})
	}
}

// P11.1: if MaxAhead are told ahead Feed answers false, and does nothing, whatever it is told.
func TestFeedFull(t *testing.T) {
	w, l := world.New(), many(most)
	feed(t, w, l...)
	for _, good := range []bool{true, false, true} {
		if w.Feed(good) {
			t.Fatalf("Feed(%v), where %d are told ahead: true", good, most)
		}
		check(t, w, oracle{ahead: l})
	}
}

// P11.1: with one less there is room for one.
func TestFeedLast(t *testing.T) {
	w, l := world.New(), many(most)
	feed(t, w, l[:most-1]...)
	check(t, w, oracle{ahead: l[:most-1]})
	feed(t, w, l[most-1])
	check(t, w, oracle{ahead: l})
}

// P11.1 and P11.2: for each one that Next told there is room again, behind the others.
func TestRoomAgain(t *testing.T) {
	w, o := world.New(), oracle{ahead: many(most)}
	feed(t, w, o.ahead...)
	for i := range 2*most + 1 {
		if got, want := w.Next(), o.next(); got != want {
			t.Fatalf("Next, %d: %v", i, got)
		}
		feed(t, w, i%2 == 0)
		o.feed(i%2 == 0)
		if w.Feed(true) {
			t.Fatalf("Feed of a full one, %d: true", i)
		}
		check(t, w, o)
	}
}

// P11.2: Next tells the first one, which then isn't told ahead any more.
func TestNext(t *testing.T) {
	w := world.New()
	o := oracle{ahead: []bool{false, true, false, false, true}}
	feed(t, w, o.ahead...)
	for i, want := range []bool{false, true, false, false, true} {
		if got := w.Next(); got != want || o.next() != want {
			t.Errorf("Next, %d: %v", i, got)
		}
		check(t, w, o)
	}
}

// P11.2: Next is true where there is none, in a new world and in one that is used up, and what is told later comes by itself.
func TestNextOfNone(t *testing.T) {
	w := world.New()
	for i := range 3 {
		if !w.Next() {
			t.Error("Next of a new one: false")
		}
		check(t, w, oracle{good: i + 1})
	}
	feed(t, w, false)
	if w.Next() {
		t.Error("Next, of one that is false: true")
	}
	check(t, w, oracle{good: 3, bad: 1})
	for i := range 3 {
		if !w.Next() {
			t.Error("Next of one that is used up: false")
		}
		check(t, w, oracle{good: 4 + i, bad: 1})
	}
}

// P11.2: Asked counts what Next told: also what wasn't told ahead, and not what Feed was told, nor what it refused.
func TestAsked(t *testing.T) {
	w, l := world.New(), many(most)
	feed(t, w, l...)
	w.Feed(false)
	check(t, w, oracle{ahead: l})
	for range most + 5 {
		w.Next()
	}
	check(t, w, oracle{good: 666 + 5, bad: 334})
}

// R5: what Ahead answers is memory of its own.
func TestOwnMemory(t *testing.T) {
	w, o := world.New(), oracle{ahead: []bool{false, true, true}}
	feed(t, w, o.ahead...)
	had := w.Ahead()
	other := w.Ahead()
	clear(had)
	_ = append(had[:1], false, false, false)
	if !slices.Equal(other, o.ahead) {
		t.Errorf("another answer was changed: %v", other)
	}
	check(t, w, o)
	w.Next()
	feed(t, w, false)
	if !slices.Equal(other, []bool{false, true, true}) {
		t.Errorf("an answer goes on: %v", other)
	}
}

// R6: what one world is told, another one isn't.
func TestApart(t *testing.T) {
	a, b := world.New(), world.New()
	feed(t, a, false, false)
	feed(t, b, true)
	a.Next()
	check(t, a, oracle{ahead: []bool{false}, bad: 1})
	check(t, b, oracle{ahead: []bool{true}})
	b.Next()
	check(t, a, oracle{ahead: []bool{false}, bad: 1})
	check(t, b, oracle{good: 1})
}

// P11.1 and P11.2, where telling and asking come in any order: in runs that fill the line, and in such as empty it.
func TestAnyOrder(t *testing.T) {
	for seed := range uint64(30) {
		r := rand.New(rand.NewPCG(seed, 11))
		w, o := world.New(), oracle{}
		often := 5
		for i := range 6000 {
			if i%1500 == 0 {
				often = r.IntN(9) + 1
			}
			good := r.IntN(2) == 0
			if r.IntN(10) < often {
				if got, want := w.Feed(good), o.feed(good); got != want {
					t.Fatalf("seed %d, %d: Feed(%v): %v", seed, i, good, got)
				}
			} else if got, want := w.Next(), o.next(); got != want {
				t.Fatalf("seed %d, %d: Next: %v", seed, i, got)
			}
			if i%20 == 0 {
				check(t, w, o)
			}
		}
		check(t, w, o)
	}
}
