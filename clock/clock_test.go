package clock_test

import (
	"math"
	"math/big"
	"math/rand/v2"
	"slices"
	"testing"

	"coachhouse/clock"
)

// last is the latest time that may be.
const last = 1 << 40

// numbers are what may be handed in, at the edges of all that an int holds.
var numbers = []int{
	math.MinInt, math.MinInt + 1, math.MinInt + last, -1 << 62, -last - 1, -last, -1 << 32, -5, -2, -1, 0, 1, 2, 5, 7, 99, 100, 101,
	1<<31 - 1, 1 << 31, 1<<32 - 1, 1 << 32, last - 1, last, last + 1, 1 << 62, math.MaxInt - last, math.MaxInt - last + 1, math.MaxInt - 1, math.MaxInt,
}

// at is a clock at a time.
func at(t *testing.T, now int) *clock.Clock {
	t.Helper()
	c := clock.New()
	if got := c.Tick(now); got != now {
		t.Fatalf("Tick(%d) of a new one: %d", now, got)
	}
	return c
}

// check holds all that a clock tells of a deadline against the time that it ought to be; it asks twice, since who only asks changes nothing.
func check(t *testing.T, c *clock.Clock, now, deadline int) {
	t.Helper()
	left := new(big.Int).Sub(big.NewInt(int64(deadline)), big.NewInt(int64(now)))
	if left.Sign() < 0 {
		left.SetInt64(0)
	}
	for range 2 {
		if got := c.Now(); got != now {
			t.Fatalf("Now: %d, want %d", got, now)
		}
		if got := c.Past(deadline); got != (left.Sign() == 0) {
			t.Fatalf("at %d Past(%d): %v", now, deadline, got)
		}
		if got := c.Left(deadline); int64(got) != left.Int64() {
			t.Fatalf("at %d Left(%d): %d, want %v", now, deadline, got, left)
		}
	}
}

// later is the time that is n later than now.
func later(now, n int) int {
	if n <= 0 {
		return now
	}
	sum := new(big.Int).Add(big.NewInt(int64(now)), big.NewInt(int64(n)))
	if sum.Cmp(big.NewInt(last)) > 0 {
		return last
	}
	return int(sum.Int64())
}

// The chapter's examples.
func TestExamples(t *testing.T) {
	c := clock.New()
	if now := c.Tick(5); now != 5 {
		t.Errorf("Tick(5): %d", now)
	}
	if !c.Past(5) {
		t.Error("Past(5): false")
	}
	if left := c.Left(7); left != 2 {
		t.Errorf("Left(7): %d", left)
	}
}

// P10.1: the latest time is 2^40.
func TestMaxTime(t *testing.T) {
	if clock.MaxTime != 1_099_511_627_776 {
		t.Errorf("MaxTime: %d", clock.MaxTime)
	}
}

// P10.1: a new one's time is 0: what is 0, or below, is past.
func TestNew(t *testing.T) {
	for _, deadline := range numbers {
		check(t, clock.New(), 0, deadline)
	}
}

// P10.1: Tick is n later, and told; an n below 0 counts as 0.
func TestTick(t *testing.T) {
	c := clock.New()
	for i, x := range []struct{ n, now int }{
		{0, 0}, {1, 1}, {0, 1}, {-1, 1}, {4, 5}, {math.MinInt, 5}, {-5, 5}, {95, 100}, {1 << 32, 1<<32 + 100}, {-1 << 32, 1<<32 + 100}, {1, 1<<32 + 101},
	} {
		if now := c.Tick(x.n); now != x.now {
			t.Errorf("%d: Tick(%d): %d, want %d", i, x.n, now, x.now)
		}
		check(t, c, x.now, x.now)
	}
}

// P10.1: the time is MaxTime at most, however much goes by, and however late it is.
func TestTickToTheLast(t *testing.T) {
	for _, now := range numbers {
		if now < 0 || now > last {
			continue
		}
		for _, n := range numbers {
			c := at(t, now)
			want := later(now, n)
			for range 2 {
				if got := c.Tick(n); got != want {
					t.Fatalf("at %d Tick(%d): %d, want %d", now, n, got, want)
				}
				check(t, c, want, want)
				want = later(want, n)
			}
		}
	}
}

// P10.1: just ahead of MaxTime each tick goes as far as it, and no further.
func TestLastTicks(t *testing.T) {
	c := at(t, last-3)
	for i, x := range []struct{ n, now int }{{1, last - 2}, {1, last - 1}, {1, last}, {1, last}, {0, last}, {-1, last}} {
		if now := c.Tick(x.n); now != x.now {
			t.Errorf("%d: Tick(%d): %d", i, x.n, now)
		}
	}
	if c.Past(last+1) || c.Left(last+1) != 1 || !c.Past(last) || c.Left(last) != 0 {
		t.Error("of the last time, and the one behind it, something else is told")
	}
}

// P10.1: a deadline is past at its own time, and at each that is later; how much is left falls by one with each tick, to 0.
func TestPastAndLeft(t *testing.T) {
	for deadline := -3; deadline <= 20; deadline++ {
		c := clock.New()
		for now := range 30 {
			check(t, c, now, deadline)
			if got := c.Past(deadline); got != (now >= deadline) {
				t.Fatalf("at %d Past(%d): %v", now, deadline, got)
			}
			c.Tick(1)
		}
	}
}

// P10.1: deadlines at all edges, at times at all edges.
func TestEdges(t *testing.T) {
	for _, now := range numbers {
		if now < 0 || now > last {
			continue
		}
		c := at(t, now)
		for _, deadline := range slices.Concat(numbers, []int{now - 1, now, now + 1}) {
			check(t, c, now, deadline)
		}
	}
}

// P10.1, P10.2: whatever goes by, the time never goes back, and what is past stays so.
func TestNeverBack(t *testing.T) {
	chance := rand.New(rand.NewPCG(10, 2))
	for range 500 {
		c := clock.New()
		now := 0
		var past []int
		for range 40 {
			n := chance.IntN(1<<(1+chance.IntN(42))) - chance.IntN(1<<(1+chance.IntN(42)))
			if chance.IntN(20) == 0 {
				n = numbers[chance.IntN(len(numbers))]
			}
			was := c.Now()
			now = later(now, n)
			if got := c.Tick(n); got != now || got < was {
				t.Fatalf("at %d Tick(%d): %d, want %d", was, n, got, now)
			}
			for _, deadline := range past {
				if !c.Past(deadline) || c.Left(deadline) != 0 {
					t.Fatalf("at %d %d isn't past any more", now, deadline)
				}
			}
			deadline := now + chance.IntN(1000) - 500
			check(t, c, now, deadline)
			if c.Past(deadline) {
				past = append(past, deadline)
			}
		}
	}
}

// R1, R6: whatever the numbers, no call panics, and two clocks of which the same was done tell the same.
func TestSameAgain(t *testing.T) {
	a, b := clock.New(), clock.New()
	for _, n := range numbers {
		for _, deadline := range numbers {
			if a.Past(deadline) != b.Past(deadline) || a.Left(deadline) != b.Left(deadline) || a.Now() != b.Now() {
				t.Fatalf("of %d: not the same", deadline)
			}
		}
		if x, y := a.Tick(n), b.Tick(n); x != y {
			t.Fatalf("Tick(%d): %d, and %d", n, x, y)
		}
	}
}

// Each clock goes by itself: time that goes by in one doesn't in another one.
func TestApart(t *testing.T) {
	a, b := clock.New(), clock.New()
	a.Tick(7)
	check(t, b, 0, 7)
	b.Tick(3)
	check(t, a, 7, 10)
	check(t, b, 3, 10)
}
