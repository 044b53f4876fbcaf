package slot_test

import (
	"math"
	"math/rand/v2"
	"testing"

	"coachhouse/api"
	"coachhouse/slot"
)

// A part is one of the things that are known of a slot, but for its State: its greatest number, the lowest bit of it in the word, and in which States it may be other than 0.
type part struct {
	most int
	at   int
	has  [7]bool
	set  func(s *api.Slot, n int)
	get  func(s api.Slot) int
}

// in is a list of States, each at its own place.
func in(states ...int) [7]bool {
	var l [7]bool
	for _, s := range states {
		l[s] = true
	}
	return l
}

func number(b bool) int {
	if b {
		return 1
	}
	return 0
}

var parts = []part{
	{15, 3, in(1, 2, 3, 4, 5), func(s *api.Slot, n int) { s.Own = n }, func(s api.Slot) int { return s.Own }},
	{255, 7, in(3), func(s *api.Slot, n int) { s.Streams = n }, func(s api.Slot) int { return s.Streams }},
	{1, 15, in(2, 3, 4), func(s *api.Slot, n int) { s.Broken = n == 1 }, func(s api.Slot) int { return number(s.Broken) }},
	{1, 16, in(2), func(s *api.Slot, n int) { s.Marked = n == 1 }, func(s api.Slot) int { return number(s.Marked) }},
	{63, 17, in(2, 3, 4), func(s *api.Slot, n int) { s.Uses = n }, func(s api.Slot) int { return s.Uses }},
	{4095, 23, in(0, 1, 2, 3, 4, 5, 6), func(s *api.Slot, n int) { s.Gen = n }, func(s api.Slot) int { return s.Gen }},
	{4095, 35, in(6), func(s *api.Slot, n int) { s.Epoch = n }, func(s api.Slot) int { return s.Epoch }},
	{32767, 47, in(0, 1, 2, 3, 4, 5, 6), func(s *api.Slot, n int) { s.Version = n }, func(s api.Slot) int { return s.Version }},
}

// right tells whether a slot is, part by part, as the document has it.
func right(s api.Slot) bool {
	if s.State < 0 || s.State > 6 {
		return false
	}
	for _, p := range parts {
		n := p.get(s)
		if n < 0 || n > p.most || n != 0 && !p.has[s.State] {
			return false
		}
	}
	return true
}

// sum is a right slot's word, reckoned as the document has it.
func sum(s api.Slot) int {
	w := s.State
	for _, p := range parts {
		w += p.get(s) << p.at
	}
	return w
}

// edges are numbers at the edges of a part, beyond them, and such that are right again, if their highest bits are lost.
func edges(most int) []int {
	return []int{math.MinInt, math.MinInt + 1, -1 << 32, -most - 1, -2, -1, 0, 1, most / 2, most - 1, most, most + 1, most + 2, 2*most + 1, 2*most + 2, 1 << 16, 1<<16 + 1, 1 << 32, 1<<32 + most, 1 << 61, 1 << 62, math.MaxInt - most, math.MaxInt}
}

// fullest is the slot of a State with as much of everything as it may have.
func fullest(state int) api.Slot {
	s := api.Slot{State: state}
	for _, p := range parts {
		if p.has[state] {
			p.set(&s, p.most)
		}
	}
	return s
}

// some is a slot of any State, with something of what that has.
func some(chance *rand.Rand) api.Slot {
	s := api.Slot{State: chance.IntN(7)}
	for _, p := range parts {
		if p.has[s.State] && chance.IntN(3) > 0 {
			p.set(&s, chance.IntN(p.most+1))
		}
	}
	return s
}

// check asks all that can be asked of a slot; and it asks twice, since who only asks changes nothing.
func check(t *testing.T, s api.Slot) {
	t.Helper()
	want, ok := 0, right(s)
	if ok {
		want = sum(s)
	}
	for range 2 {
		if got := slot.Right(s); got != ok {
			t.Errorf("Right(%+v): %v", s, got)
		}
		w, is := slot.Encode(s)
		if w != want || is != ok {
			t.Errorf("Encode(%+v): %#x, %v, want %#x, %v", s, w, is, want, ok)
		}
		if !ok {
			continue
		}
		if x, is := slot.Decode(want); x != s || !is {
			t.Errorf("Decode(%#x): %+v, %v, want %+v", want, x, is, s)
		}
	}
}

// The limits that the document names.
func TestLimits(t *testing.T) {
	if slot.MaxOwn != 15 || slot.MaxStreams != 8 || slot.MaxUses != 63 || slot.MaxGen != 4095 || slot.MaxEpoch != 4095 || slot.MaxVersion != 32767 {
		t.Error(slot.MaxOwn, slot.MaxStreams, slot.MaxUses, slot.MaxGen, slot.MaxEpoch, slot.MaxVersion)
	}
}

// The chapter's example.
func TestExample(t *testing.T) {
	s := api.Slot{State: api.Idle, Own: 3, Uses: 1}
	if w, ok := slot.Encode(s); w != 131098 || !ok {
		t.Error(w, ok)
	}
	if x, ok := slot.Decode(131098); x != s || !ok {
		t.Error(x, ok)
	}
}

// P7.1: where each part stands in the word, as the document has it, written out.
func TestWords(t *testing.T) {
	for _, x := range []struct {
		s api.Slot
		w int
	}{
		{api.Slot{}, 0},
		{api.Slot{State: api.Dialing}, 1},
		{api.Slot{State: api.Idle}, 2},
		{api.Slot{State: api.Leased}, 3},
		{api.Slot{State: api.Kept}, 4},
		{api.Slot{State: api.Held}, 5},
		{api.Slot{State: api.Limbo}, 6},
		{api.Slot{State: api.Dialing, Own: 15}, 1 + 15*8},
		{api.Slot{State: api.Leased, Streams: 1}, 3 + 128},
		{api.Slot{State: api.Leased, Streams: 255}, 3 + 255*128},
		{api.Slot{State: api.Kept, Broken: true}, 4 + 32768},
		{api.Slot{State: api.Idle, Marked: true}, 2 + 65536},
		{api.Slot{State: api.Leased, Uses: 63}, 3 + 63*131072},
		{api.Slot{Gen: 1}, 8388608},
		{api.Slot{Gen: 4095}, 4095 * 8388608},
		{api.Slot{State: api.Limbo, Epoch: 1}, 6 + 34359738368},
		{api.Slot{State: api.Limbo, Epoch: 4095}, 6 + 4095*34359738368},
		{api.Slot{Version: 1}, 140737488355328},
		{api.Slot{Version: 32767}, 32767 * 140737488355328},
		{api.Slot{State: api.Leased, Own: 9, Streams: 5, Broken: true, Uses: 33, Gen: 2049, Version: 16385}, 3 + 9*8 + 5*128 + 32768 + 33*131072 + 2049*8388608 + 16385*140737488355328},
	} {
		if w, ok := slot.Encode(x.s); w != x.w || !ok {
			t.Errorf("Encode(%+v): %d, %v, want %d", x.s, w, ok, x.w)
		}
		if s, ok := slot.Decode(x.w); s != x.s || !ok {
			t.Errorf("Decode(%d): %+v, %v, want %+v", x.w, s, ok, x.s)
		}
	}
}

// P7.1: of each State, and of each part of a slot: every number that it may have, and those beyond; alone, and beside as much as the slot may have.
func TestEachPart(t *testing.T) {
	for state := range 7 {
		for _, s := range []api.Slot{{State: state}, fullest(state)} {
			check(t, s)
			for _, p := range parts {
				with := s
				for n := range p.most + 1 {
					p.set(&with, n)
					check(t, with)
				}
				for _, n := range edges(p.most) {
					p.set(&with, n)
					check(t, with)
				}
			}
		}
	}
}

// P7.1: a State that is none of the seven, whatever else the slot has.
func TestWrongStates(t *testing.T) {
	for _, state := range append(edges(7), edges(6)...) {
		for other := range 7 {
			s := fullest(other)
			s.State = state
			check(t, s)
			check(t, api.Slot{State: state})
		}
	}
	for state := -300; state <= 300; state++ {
		check(t, api.Slot{State: state})
	}
}

// P7.1: two parts that are wrong at once, which could make up for each other in the word.
func TestTwoWrongParts(t *testing.T) {
	check(t, api.Slot{State: -8, Own: 1})
	check(t, api.Slot{State: 10})
	for state := range 7 {
		for i, p := range parts {
			for _, q := range parts[i+1:] {
				for _, n := range []int{-p.most - 1, -1, p.most + 1} {
					for _, m := range []int{-1, 1, q.most, q.most + 1} {
						s := api.Slot{State: state}
						p.set(&s, n)
						q.set(&s, m)
						check(t, s)
					}
				}
			}
		}
	}
}

// P7.1: Decode of words: those that are a right slot's, and those that aren't, told by what their bits tell.
func TestDecode(t *testing.T) {
	chance := rand.New(rand.NewPCG(7, 1))
	var words []int
	for w := -1 << 10; w < 1<<20; w++ {
		words = append(words, w)
	}
	for state := range 8 {
		for i := 3; i < 64; i++ {
			words = append(words, state|1<<i, state|(math.MinInt>>(63-i)), state|(1<<i-8))
			for j := 3; j < i; j++ {
				words = append(words, state|1<<i|1<<j)
			}
		}
	}
	for range 100_000 {
		w := int(chance.Uint64())
		words = append(words, w, w&(1<<62-1), sum(some(chance)), sum(some(chance))^1<<chance.IntN(64))
	}
	for _, w := range words {
		want, ok := told(w)
		if s, is := slot.Decode(w); s != want || is != ok {
			t.Fatalf("Decode(%#x): %+v, %v, want %+v, %v", w, s, is, want, ok)
		}
	}
}

// told is the slot whose word w is, as the document has it.
func told(w int) (api.Slot, bool) {
	s := api.Slot{State: w & 7}
	for _, p := range parts {
		p.set(&s, w>>p.at&p.most)
	}
	if w < 0 || w >= 1<<62 || !right(s) {
		return api.Slot{}, false
	}
	return s, true
}

// P7.1: words that are no slot's, by what is wrong with them.
func TestWrongWords(t *testing.T) {
	for what, w := range map[string]int{
		"below 0":                    -1,
		"the least int":              math.MinInt,
		"the greatest int":           math.MaxInt,
		"the eighth State":           7,
		"bit 62, alone":              1 << 62,
		"bit 62, of an Idle one":     1<<62 | 2,
		"bit 63, of an Idle one":     math.MinInt | 2,
		"bits 62 and 63, of Limbo":   -1<<62 | 6,
		"Own, of an Empty one":       8,
		"Own, of one in Limbo":       6 | 8,
		"Streams, of an Idle one":    2 | 1<<7,
		"Streams, of a Kept one":     4 | 1<<14,
		"Broken, of a Dialing one":   1 | 1<<15,
		"Broken, of a Held one":      5 | 1<<15,
		"Marked, of a Leased one":    3 | 1<<16,
		"Uses, of a Held one":        5 | 1<<17,
		"Uses, of one in Limbo":      6 | 1<<22,
		"Epoch, of an Idle one":      2 | 1<<35,
		"Epoch, of an Empty one":     1 << 46,
		"all bits that are used":     1<<62 - 1,
		"all but those of the State": 1<<62 - 8,
	} {
		if s, ok := slot.Decode(w); s != (api.Slot{}) || ok {
			t.Errorf("%s: Decode(%#x): %+v, %v", what, w, s, ok)
		}
	}
}

// P7.2: what is encoded is decoded, and a word that is decoded is encoded.
func TestThereAndBack(t *testing.T) {
	chance := rand.New(rand.NewPCG(7, 2))
	for range 100_000 {
		s := some(chance)
		w, ok := slot.Encode(s)
		x, is := slot.Decode(w)
		again, too := slot.Encode(x)
		if !ok || !is || !too || x != s || again != w {
			t.Fatalf("%+v: %#x, %v; %+v, %v; %#x, %v", s, w, ok, x, is, again, too)
		}
	}
}

// P7.2: unlike slots have unlike words, those too that differ in one thing alone.
func TestUnlike(t *testing.T) {
	slots := map[int]api.Slot{}
	seen := func(s api.Slot) {
		w, ok := slot.Encode(s)
		if had, is := slots[w]; !ok || is && had != s {
			t.Fatalf("Encode(%+v): %#x, %v, which is that of %+v", s, w, ok, had)
		}
		slots[w] = s
	}
	chance := rand.New(rand.NewPCG(7, 3))
	for range 20_000 {
		s := some(chance)
		seen(s)
		for _, p := range parts {
			if p.has[s.State] {
				p.set(&s, p.most-p.get(s))
				seen(s)
			}
		}
	}
}

// P7.2: a word 0 is an Empty slot's, of which nothing else is known.
func TestNothing(t *testing.T) {
	if w, ok := slot.Encode(api.Slot{}); w != 0 || !ok {
		t.Error(w, ok)
	}
	if s, ok := slot.Decode(0); s != (api.Slot{}) || !ok {
		t.Error(s, ok)
	}
}

// R1: whatever the slots, each call ends, and none panics.
func TestAnySlots(t *testing.T) {
	chance := rand.New(rand.NewPCG(7, 4))
	for range 100_000 {
		s := some(chance)
		for range 1 + chance.IntN(3) {
			p := parts[chance.IntN(len(parts))]
			p.set(&s, edges(p.most)[chance.IntN(len(edges(p.most)))])
		}
		if chance.IntN(4) == 0 {
			s.State = edges(7)[chance.IntN(len(edges(7)))]
		}
		check(t, s)
	}
}
