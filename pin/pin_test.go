package pin_test

import (
	"math"
	"math/rand/v2"
	"slices"
	"testing"

	"coachhouse/pin"
)

// last is the greatest epoch that may be.
const last = 1 << 40

// epochs are those at the edges, some in between, and some around what has fewer bits.
var epochs = []int{0, 1, 2, 3, 7, 254, 255, 256, 4094, 4095, 4096, 65535, 1<<31 - 1, 1 << 31, 1<<32 - 2, 1<<32 - 1, 1 << 32, 1<<32 + 1, last - 1, last}

// words are those of pins at epochs; where a number is below 0 nobody is pinned.
func words(at ...int) []int {
	l := make([]int, len(at))
	for i, epoch := range at {
		if epoch >= 0 {
			l[i] = epoch + 1
		}
	}
	return l
}

// free is what Free is to tell: each word but the one at self is none, or that of a later epoch.
func free(pins []int, self, epoch int) bool {
	blocked := 0
	for i, w := range pins {
		if i != self && w >= 1 && w <= epoch+1 {
			blocked++
		}
	}
	return blocked == 0
}

// least is what Least is to tell: the first word, of those that aren't 0, by rising words.
func least(pins []int) (int, bool) {
	l := slices.Sorted(slices.Values(pins))
	for _, w := range l {
		if w > 0 {
			return w - 1, true
		}
	}
	return 0, false
}

// check asks Free and Least twice, since who only asks changes nothing, and holds the list against what it was.
func check(t *testing.T, pins []int, self, epoch int) {
	t.Helper()
	was := slices.Clone(pins)
	for range 2 {
		if got, want := pin.Free(pins, self, epoch), free(was, self, epoch); got != want {
			t.Fatalf("Free(%v, %d, %d): %v", was, self, epoch, got)
		}
		at, ok := least(was)
		if got, is := pin.Least(pins); got != at || is != ok {
			t.Fatalf("Least(%v): %d, %v, want %d, %v", was, got, is, at, ok)
		}
	}
	if !slices.Equal(pins, was) {
		t.Fatalf("the pins were changed: %v, then %v", was, pins)
	}
}

// The chapter's examples.
func TestExamples(t *testing.T) {
	pins := []int{0, 6, 8}
	for i, epoch := range []int{5, 7} {
		if got, ok := pin.Epoch(pins[i+1]); got != epoch || !ok {
			t.Errorf("Epoch(%d): %d, %v", pins[i+1], got, ok)
		}
	}
	if pin.Free(pins, -1, 5) {
		t.Error("Free(pins, -1, 5): true")
	}
	if !pin.Free(pins, -1, 4) {
		t.Error("Free(pins, -1, 4): false")
	}
	if !pin.Free(pins, 1, 6) {
		t.Error("Free(pins, 1, 6): false")
	}
}

// P9.1: a pin's word is its epoch, and 1, and tells that epoch.
func TestWord(t *testing.T) {
	for _, epoch := range epochs {
		w := pin.Word(epoch)
		if w != epoch+1 {
			t.Errorf("Word(%d): %d", epoch, w)
		}
		if got, ok := pin.Epoch(w); got != epoch || !ok {
			t.Errorf("Epoch(%d): %d, %v", w, got, ok)
		}
	}
}

// P9.1: the word 0 is that where nobody is pinned: 0, and false; the word 1 tells the epoch 0, and true.
func TestNobody(t *testing.T) {
	if got, ok := pin.Epoch(0); got != 0 || ok {
		t.Errorf("Epoch(0): %d, %v", got, ok)
	}
	if got, ok := pin.Epoch(1); got != 0 || !ok {
		t.Errorf("Epoch(1): %d, %v", got, ok)
	}
	for _, epoch := range epochs {
		if pin.Blocks(0, epoch) {
			t.Errorf("Blocks(0, %d): true", epoch)
		}
	}
}

// P9.1: a word blocks its own epoch, and all later ones, and no earlier one.
func TestBlocks(t *testing.T) {
	for _, at := range epochs {
		for _, epoch := range epochs {
			if got := pin.Blocks(at+1, epoch); got != (at <= epoch) {
				t.Errorf("Blocks(%d, %d): %v", at+1, epoch, got)
			}
		}
	}
	for epoch := range 10 {
		if pin.Blocks(5, epoch) != (epoch >= 4) {
			t.Errorf("Blocks(5, %d): %v", epoch, epoch < 4)
		}
	}
}

// P9.2: where there are no pins, or nobody is pinned, all epochs are free, and there is no least one.
func TestNobodyAtAll(t *testing.T) {
	for _, pins := range [][]int{nil, {}, {0}, {0, 0}, make([]int, 100)} {
		if got, ok := pin.Least(pins); got != 0 || ok {
			t.Errorf("Least(%v): %d, %v", pins, got, ok)
		}
		for _, self := range []int{-1, 0, 1, 200} {
			for _, epoch := range epochs {
				if !pin.Free(pins, self, epoch) {
					t.Errorf("Free(%v, %d, %d): false", pins, self, epoch)
				}
			}
		}
	}
}

// P9.2: one who is pinned, at each place among others who aren't, or are later: its epoch is blocked, and those behind it, but if it is oneself.
func TestOneBlocks(t *testing.T) {
	for many := 1; many <= 9; many++ {
		for place := range many {
			for _, other := range []int{-1, 50} {
				at := slices.Repeat([]int{other}, many)
				at[place] = 20
				pins := words(at...)
				for epoch := range 50 {
					for self := -1; self <= many; self++ {
						want := epoch < 20 || self == place
						if got := pin.Free(pins, self, epoch); got != want {
							t.Fatalf("Free(%v, %d, %d): %v", pins, self, epoch, got)
						}
					}
				}
				if got, ok := pin.Least(pins); got != 20 || !ok {
					t.Fatalf("Least(%v): %d, %v", pins, got, ok)
				}
			}
		}
	}
}

// P9.2: only the word at the place self isn't asked: another one of the same epoch still is, and a self that is a word, or an epoch, is no place.
func TestSelfIsAPlace(t *testing.T) {
	for _, x := range []struct {
		at          []int
		self, epoch int
		want        bool
	}{
		{[]int{3, 3}, 0, 3, false},
		{[]int{3, 3}, 1, 3, false},
		{[]int{3, 3}, 0, 2, true},
		{[]int{3, -1}, 0, 3, true},
		{[]int{3, -1}, 1, 3, false},
		{[]int{-1, -1, 1}, 1, 5, false},
		{[]int{-1, -1, 1}, 2, 5, true},
		{[]int{0, 1, 2, 3}, 3, 0, false},
		{[]int{2, 0, 3}, 1, 1, true},
		{[]int{2, 0, 3}, 1, 2, false},
		{[]int{9, 0, 9}, 0, 0, false},
	} {
		if got := pin.Free(words(x.at...), x.self, x.epoch); got != x.want {
			t.Errorf("Free of epochs %v, %d, %d: %v", x.at, x.self, x.epoch, got)
		}
	}
}

// P9.2: where there is no place self, each word is asked.
func TestNoSelf(t *testing.T) {
	pins := words(4, -1, 6)
	for _, self := range []int{math.MinInt, -1 << 32, -4, -3, -2, -1, 3, 4, 6, 1 << 32, 1<<32 + 2, math.MaxInt} {
		for epoch := range 9 {
			if got := pin.Free(pins, self, epoch); got != (epoch < 4) {
				t.Errorf("Free(%v, %d, %d): %v", pins, self, epoch, got)
			}
		}
	}
	for _, at := range []int{0, 2} {
		if pin.Free(pins[at:at+1], 1, 8) {
			t.Errorf("Free(%v, 1, 8): true", pins[at:at+1])
		}
	}
}

// P9.2: pins at the first epoch, and at the last one.
func TestEdges(t *testing.T) {
	for _, at := range epochs {
		for _, other := range epochs {
			pins := words(at, -1, other)
			for _, epoch := range epochs {
				for self := -1; self <= 3; self++ {
					check(t, pins, self, epoch)
				}
			}
			if got, ok := pin.Least(pins); got != min(at, other) || !ok {
				t.Errorf("Least(%v): %d, %v", pins, got, ok)
			}
		}
	}
}

// P9.2: all short lists of a few words, and then long ones of any.
func TestManyLists(t *testing.T) {
	for n := range 5 * 5 * 5 * 5 {
		pins := []int{n % 5, n / 5 % 5, n / 25 % 5, n / 125}
		for self := -1; self <= 4; self++ {
			for epoch := range 6 {
				check(t, pins, self, epoch)
			}
		}
	}
	chance := rand.New(rand.NewPCG(9, 2))
	for range 20_000 {
		pins := make([]int, chance.IntN(40))
		most := 1 + chance.IntN(1<<chance.IntN(41))
		for i := range pins {
			pins[i] = chance.IntN(3) / 2 * (chance.IntN(most) + 1)
		}
		check(t, pins, chance.IntN(len(pins)+3)-1, chance.IntN(most+1))
	}
}

// P9.1, P9.2: the least epoch is blocked by somebody, and none that is earlier is.
func TestLeastIsBlocked(t *testing.T) {
	chance := rand.New(rand.NewPCG(9, 1))
	for range 5_000 {
		pins := make([]int, 1+chance.IntN(8))
		for i := range pins {
			pins[i] = pin.Word(1 + chance.IntN(1000))
		}
		at, ok := pin.Least(pins)
		if !ok || !slices.Contains(pins, pin.Word(at)) || pin.Free(pins, -1, at) || !pin.Free(pins, -1, at-1) {
			t.Fatalf("Least(%v): %d, %v", pins, at, ok)
		}
	}
}

// R1: whatever the words, places and epochs, no call panics; R6: asked again, it answers the same.
func TestAnyNumbers(t *testing.T) {
	numbers := []int{math.MinInt, math.MinInt + 1, -1 << 40, -2, -1, 0, 1, last + 1, last + 2, 1 << 62, math.MaxInt - 1, math.MaxInt}
	for _, a := range numbers {
		for _, b := range numbers {
			for _, c := range numbers {
				if x, y := answers(a, b, c), answers(a, b, c); x != y {
					t.Fatalf("of %d, %d, %d: %v, then %v", a, b, c, x, y)
				}
			}
		}
	}
}

// told is what all the calls answer.
type told struct {
	word, epoch, least       int
	pinned, blocks, free, ok bool
}

func answers(a, b, c int) told {
	var x told
	x.word = pin.Word(a)
	x.epoch, x.pinned = pin.Epoch(a)
	x.blocks = pin.Blocks(a, b)
	x.free = pin.Free([]int{a, b, 0}, c, b)
	x.least, x.ok = pin.Least([]int{a, b, c})
	return x
}
