package life_test

import (
	"math"
	"math/rand/v2"
	"slices"
	"testing"

	"coachhouse/api"
	"coachhouse/life"
	"coachhouse/slot"
)

// names are those of what is done, each at its number.
var names = []string{"Dial", "Up", "Fail", "Lease", "Rest", "Keep", "Unkeep", "Hold", "Unhold", "Move", "Mark", "Retire", "Clear", "Break", "Open", "Shut", "Take", "Age"}

// A rule is a line of the chapter's table: what is done; with a slot in which States; whether it must be of own, not Broken, not Marked, without Streams; in which State it is then (stays: in the one that it was); whether it is of own then; and what else becomes of it, if that can be.
type rule struct {
	do                       int
	of                       []int
	own, whole, plain, quiet bool
	then                     int
	owned                    bool
	more                     func(s *api.Slot, more int) bool
}

const stays = -1

var rules = []rule{
	{do: 0, of: []int{api.Empty}, then: api.Dialing, owned: true},
	{do: 1, of: []int{api.Dialing}, own: true, then: api.Leased, owned: true, more: func(s *api.Slot, _ int) bool {
		s.Uses, s.Gen = 1, next(s.Gen, 4095)
		return true
	}},
	{do: 2, of: []int{api.Dialing}, own: true, then: api.Empty},
	{do: 3, of: []int{api.Idle}, whole: true, then: api.Leased, owned: true, more: again},
	{do: 4, of: []int{api.Leased}, own: true, quiet: true, then: api.Idle, owned: true},
	{do: 5, of: []int{api.Idle}, whole: true, then: api.Kept, owned: true},
	{do: 6, of: []int{api.Kept}, then: api.Idle, owned: true},
	{do: 7, of: []int{api.Empty}, then: api.Held, owned: true},
	{do: 8, of: []int{api.Held}, then: api.Empty},
	{do: 9, of: []int{api.Idle}, then: api.Idle, owned: true},
	{do: 10, of: []int{api.Idle}, plain: true, then: api.Idle, more: func(s *api.Slot, _ int) bool {
		s.Marked = true
		return true
	}},
	{do: 11, of: []int{api.Idle, api.Leased}, then: api.Limbo, more: epoch},
	{do: 12, of: []int{api.Limbo}, then: api.Empty},
	{do: 13, of: []int{api.Idle, api.Leased, api.Kept}, whole: true, then: stays, more: func(s *api.Slot, _ int) bool {
		s.Broken = true
		return true
	}},
	{do: 14, of: []int{api.Leased}, own: true, whole: true, then: stays, more: opened},
	{do: 15, of: []int{api.Leased}, own: true, then: stays, more: shut},
	{do: 16, of: []int{api.Kept}, own: true, then: api.Leased, owned: true, more: again},
	{do: 16, of: []int{api.Held}, own: true, then: api.Dialing, owned: true},
	{do: 17, of: []int{api.Limbo}, then: stays, more: epoch},
}

// next is the number behind one; behind the greatest one it is 0.
func next(n, most int) int {
	if n == most {
		return 0
	}
	return n + 1
}

func again(s *api.Slot, _ int) bool {
	if s.Uses < 63 {
		s.Uses++
	}
	s.Gen = next(s.Gen, 4095)
	return true
}

func epoch(s *api.Slot, more int) bool {
	s.Epoch = more
	return more >= 0 && more <= 4095
}

func opened(s *api.Slot, more int) bool {
	if more > 8 {
		more = 8
	}
	for i := 0; i < more; i++ {
		if s.Streams>>i&1 == 0 {
			s.Streams += 1 << i
			return true
		}
	}
	return false
}

func shut(s *api.Slot, more int) bool {
	if more < 0 || more > 7 || s.Streams>>more&1 == 0 {
		return false
	}
	s.Streams -= 1 << more
	return true
}

// trim takes from a slot what its State doesn't have.
func trim(s api.Slot) api.Slot {
	connected := s.State == api.Idle || s.State == api.Leased || s.State == api.Kept
	if s.State == api.Empty || s.State == api.Limbo {
		s.Own = 0
	}
	if s.State != api.Leased {
		s.Streams = 0
	}
	if !connected {
		s.Broken, s.Uses = false, 0
	}
	if s.State != api.Idle {
		s.Marked = false
	}
	if s.State != api.Limbo {
		s.Epoch = 0
	}
	return s
}

// told is what becomes of a right slot, as the chapter's table has it; own may be.
func told(s api.Slot, do, own, more int) (api.Slot, bool) {
	for _, r := range rules {
		if r.do != do || !slices.Contains(r.of, s.State) {
			continue
		}
		if r.own && s.Own != own || r.whole && s.Broken || r.plain && s.Marked || r.quiet && s.Streams != 0 {
			return api.Slot{}, false
		}
		if r.more != nil && !r.more(&s, more) {
			return api.Slot{}, false
		}
		if r.then != stays {
			s.State = r.then
		}
		if r.owned {
			s.Own = own
		}
		s = trim(s)
		s.Version = next(s.Version, 32767)
		return s, true
	}
	return api.Slot{}, false
}

// check asks twice, since who only asks changes nothing.
func check(t *testing.T, s api.Slot, do, own, more int, want api.Slot, ok bool) {
	t.Helper()
	for range 2 {
		if got, is := life.Next(s, do, own, more); got != want || is != ok {
			t.Fatalf("Next(%+v, %d, %d, %d): %+v, %v, want %+v, %v", s, do, own, more, got, is, want, ok)
		}
	}
}

// cant asks for what can't be.
func cant(t *testing.T, s api.Slot, do, own, more int) {
	t.Helper()
	check(t, s, do, own, more, api.Slot{}, false)
}

// held asks for what the table tells.
func held(t *testing.T, s api.Slot, do, own, more int) {
	t.Helper()
	want, ok := told(s, do, own, more)
	check(t, s, do, own, more, want, ok)
}

// slots are those of each State, with numbers at the edges, and in between, of all that it has.
func slots() []api.Slot {
	l := []api.Slot{{}, {Version: 32767}, {Version: 5}}
	for _, part := range []struct {
		numbers []int
		set     func(s *api.Slot, n int)
	}{
		{[]int{0, 1, 2, 3, 4, 5, 6}, func(s *api.Slot, n int) { s.State = n }},
		{[]int{0, 3, 15}, func(s *api.Slot, n int) { s.Own = n }},
		{[]int{0, 1, 2, 5, 127, 128, 254, 255}, func(s *api.Slot, n int) { s.Streams = n }},
		{[]int{0, 1}, func(s *api.Slot, n int) { s.Broken = n == 1 }},
		{[]int{0, 1}, func(s *api.Slot, n int) { s.Marked = n == 1 }},
		{[]int{0, 1, 62, 63}, func(s *api.Slot, n int) { s.Uses = n }},
		{[]int{0, 1, 4095}, func(s *api.Slot, n int) { s.Gen = n }},
		{[]int{0, 1, 4095}, func(s *api.Slot, n int) { s.Epoch = n }},
	} {
		var more []api.Slot
		for _, s := range l {
			for _, n := range part.numbers {
				with := s
				part.set(&with, n)
				if trim(with) == with {
					more = append(more, with)
				}
			}
		}
		l = more
	}
	return l
}

// some is any right slot.
func some(chance *rand.Rand) api.Slot {
	return trim(api.Slot{
		State:   chance.IntN(7),
		Own:     chance.IntN(16),
		Streams: chance.IntN(256) & chance.IntN(256),
		Broken:  chance.IntN(3) == 0,
		Marked:  chance.IntN(2) == 0,
		Uses:    chance.IntN(64),
		Gen:     chance.IntN(4096),
		Epoch:   chance.IntN(4096),
		Version: chance.IntN(32768),
	})
}

// The chapter's example.
func TestExample(t *testing.T) {
	s, ok := life.Next(api.Slot{}, api.Dial, 2, 0)
	if s != (api.Slot{State: api.Dialing, Own: 2, Version: 1}) || !ok {
		t.Error(s, ok)
	}
	s, ok = life.Next(s, api.Up, 2, 0)
	if s != (api.Slot{State: api.Leased, Own: 2, Uses: 1, Gen: 1, Version: 2}) || !ok {
		t.Error(s, ok)
	}
}

// The numbers of what is done.
func TestNumbers(t *testing.T) {
	for do, x := range []int{api.Dial, api.Up, api.Fail, api.Lease, api.Rest, api.Keep, api.Unkeep, api.Hold, api.Unhold, api.Move, api.Mark, api.Retire, api.Clear, api.Break, api.Open, api.Shut, api.Take, api.Age} {
		if x != do {
			t.Errorf("%s: %d", names[do], x)
		}
	}
}

// The slots of each State that the tables below begin with, each with as much as it may have that stands in nobody's way.
var (
	empty   = api.Slot{Gen: 7, Version: 40}
	dialing = api.Slot{State: api.Dialing, Own: 2, Gen: 7, Version: 40}
	idle    = api.Slot{State: api.Idle, Own: 2, Marked: true, Uses: 9, Gen: 7, Version: 40}
	leased  = api.Slot{State: api.Leased, Own: 2, Streams: 5, Uses: 9, Gen: 7, Version: 40}
	kept    = api.Slot{State: api.Kept, Own: 2, Uses: 9, Gen: 7, Version: 40}
	waited  = api.Slot{State: api.Held, Own: 2, Gen: 7, Version: 40}
	limbo   = api.Slot{State: api.Limbo, Gen: 7, Epoch: 30, Version: 40}
)

// P8.1: each line of the table, written out; what isn't named stays, and what the new State doesn't have goes.
func TestEachLine(t *testing.T) {
	still := leased
	still.Streams = 0
	broken := still
	broken.Broken = true
	plain := idle
	plain.Marked = false
	cracked := idle
	cracked.Broken = true
	keptBroken := kept
	keptBroken.Broken = true
	open := leased
	open.Broken = true
	for _, x := range []struct {
		of            api.Slot
		do, own, more int
		then          api.Slot
	}{
		{empty, api.Dial, 6, -1, api.Slot{State: api.Dialing, Own: 6, Gen: 7, Version: 41}},
		{dialing, api.Up, 2, -1, api.Slot{State: api.Leased, Own: 2, Uses: 1, Gen: 8, Version: 41}},
		{dialing, api.Fail, 2, -1, api.Slot{Gen: 7, Version: 41}},
		{idle, api.Lease, 6, -1, api.Slot{State: api.Leased, Own: 6, Uses: 10, Gen: 8, Version: 41}},
		{idle, api.Lease, 2, -1, api.Slot{State: api.Leased, Own: 2, Uses: 10, Gen: 8, Version: 41}},
		{still, api.Rest, 2, -1, api.Slot{State: api.Idle, Own: 2, Uses: 9, Gen: 7, Version: 41}},
		{broken, api.Rest, 2, -1, api.Slot{State: api.Idle, Own: 2, Broken: true, Uses: 9, Gen: 7, Version: 41}},
		{idle, api.Keep, 6, -1, api.Slot{State: api.Kept, Own: 6, Uses: 9, Gen: 7, Version: 41}},
		{kept, api.Unkeep, 6, -1, api.Slot{State: api.Idle, Own: 6, Uses: 9, Gen: 7, Version: 41}},
		{keptBroken, api.Unkeep, 2, -1, api.Slot{State: api.Idle, Own: 2, Broken: true, Uses: 9, Gen: 7, Version: 41}},
		{empty, api.Hold, 6, -1, api.Slot{State: api.Held, Own: 6, Gen: 7, Version: 41}},
		{waited, api.Unhold, 6, -1, api.Slot{Gen: 7, Version: 41}},
		{idle, api.Move, 6, -1, api.Slot{State: api.Idle, Own: 6, Marked: true, Uses: 9, Gen: 7, Version: 41}},
		{cracked, api.Move, 2, -1, api.Slot{State: api.Idle, Own: 2, Broken: true, Marked: true, Uses: 9, Gen: 7, Version: 41}},
		{plain, api.Mark, 6, -1, api.Slot{State: api.Idle, Own: 2, Marked: true, Uses: 9, Gen: 7, Version: 41}},
		{cracked, api.Retire, 6, 12, api.Slot{State: api.Limbo, Gen: 7, Epoch: 12, Version: 41}},
		{open, api.Retire, 6, 12, api.Slot{State: api.Limbo, Gen: 7, Epoch: 12, Version: 41}},
		{limbo, api.Clear, 6, -1, api.Slot{Gen: 7, Version: 41}},
		{idle, api.Break, 6, -1, api.Slot{State: api.Idle, Own: 2, Broken: true, Marked: true, Uses: 9, Gen: 7, Version: 41}},
		{leased, api.Break, 6, -1, api.Slot{State: api.Leased, Own: 2, Streams: 5, Broken: true, Uses: 9, Gen: 7, Version: 41}},
		{kept, api.Break, 6, -1, api.Slot{State: api.Kept, Own: 2, Broken: true, Uses: 9, Gen: 7, Version: 41}},
		{leased, api.Open, 2, 8, api.Slot{State: api.Leased, Own: 2, Streams: 7, Uses: 9, Gen: 7, Version: 41}},
		{leased, api.Shut, 2, 2, api.Slot{State: api.Leased, Own: 2, Streams: 1, Uses: 9, Gen: 7, Version: 41}},
		{open, api.Shut, 2, 0, api.Slot{State: api.Leased, Own: 2, Streams: 4, Broken: true, Uses: 9, Gen: 7, Version: 41}},
		{kept, api.Take, 2, -1, api.Slot{State: api.Leased, Own: 2, Uses: 10, Gen: 8, Version: 41}},
		{keptBroken, api.Take, 2, -1, api.Slot{State: api.Leased, Own: 2, Broken: true, Uses: 10, Gen: 8, Version: 41}},
		{waited, api.Take, 2, -1, api.Slot{State: api.Dialing, Own: 2, Gen: 7, Version: 41}},
		{limbo, api.Age, 6, 12, api.Slot{State: api.Limbo, Gen: 7, Epoch: 12, Version: 41}},
	} {
		t.Run(names[x.do], func(t *testing.T) {
			check(t, x.of, x.do, x.own, x.more, x.then, true)
		})
	}
}

// P8.1: of which States each can be done, written out: of all others it can't.
func TestStates(t *testing.T) {
	still := leased
	still.Streams = 0
	plain := idle
	plain.Marked = false
	can := map[int][]int{
		api.Dial: {api.Empty}, api.Up: {api.Dialing}, api.Fail: {api.Dialing}, api.Lease: {api.Idle}, api.Rest: {api.Leased}, api.Keep: {api.Idle},
		api.Unkeep: {api.Kept}, api.Hold: {api.Empty}, api.Unhold: {api.Held}, api.Move: {api.Idle}, api.Mark: {api.Idle}, api.Retire: {api.Idle, api.Leased},
		api.Clear: {api.Limbo}, api.Break: {api.Idle, api.Leased, api.Kept}, api.Open: {api.Leased}, api.Take: {api.Kept, api.Held}, api.Age: {api.Limbo},
	}
	for state, s := range []api.Slot{empty, dialing, plain, still, kept, waited, limbo} {
		for do := range names {
			if do == api.Shut {
				continue
			}
			if _, ok := life.Next(s, do, 2, 5); ok != slices.Contains(can[do], state) {
				t.Errorf("%s of State %d: %v", names[do], state, ok)
			}
		}
	}
	for state, s := range []api.Slot{empty, dialing, idle, leased, kept, waited, limbo} {
		if _, ok := life.Next(s, api.Shut, 2, 2); ok != (state == api.Leased) {
			t.Errorf("Shut of State %d: %v", state, ok)
		}
	}
}

// P8.1: what must be of own can't be done by another one.
func TestOfOwn(t *testing.T) {
	still := leased
	still.Streams = 0
	for own := range 16 {
		if own == 2 {
			continue
		}
		cant(t, dialing, api.Up, own, 0)
		cant(t, dialing, api.Fail, own, 0)
		cant(t, still, api.Rest, own, 0)
		cant(t, leased, api.Open, own, 8)
		cant(t, leased, api.Shut, own, 2)
		cant(t, kept, api.Take, own, 0)
		cant(t, waited, api.Take, own, 0)
	}
}

// P8.1: what is Broken, Marked, or has Streams, where it must not.
func TestInTheWay(t *testing.T) {
	for _, s := range []api.Slot{idle, leased, kept} {
		s.Broken = true
		cant(t, s, api.Break, 2, 0)
		cant(t, s, api.Lease, 2, 0)
		cant(t, s, api.Keep, 2, 0)
		cant(t, s, api.Open, 2, 8)
	}
	cant(t, idle, api.Mark, 2, 0)
	for bit := range 8 {
		s := leased
		s.Streams = 1 << bit
		cant(t, s, api.Rest, 2, 0)
	}
}

// P8.1: the Epoch of what is retired, or ages: any that may be, and none beside.
func TestEpochs(t *testing.T) {
	for _, x := range []struct {
		s  api.Slot
		do int
	}{{idle, api.Retire}, {leased, api.Retire}, {limbo, api.Age}} {
		for more := range 4096 {
			check(t, x.s, x.do, 0, more, api.Slot{State: api.Limbo, Gen: 7, Epoch: more, Version: 41}, true)
		}
		for _, more := range []int{math.MinInt, -4096, -1, 4096, 4097, 8192, 1 << 32, math.MaxInt} {
			cant(t, x.s, x.do, 0, more)
		}
	}
}

// mores are numbers around those of streams, and far from them, such too as are one of them, if high bits are lost.
var mores = []int{math.MinInt, math.MinInt + 1, -64, -63, -8, -2, -1, 0, 1, 2, 3, 4, 5, 6, 7, 8, 9, 16, 31, 32, 33, 62, 63, 64, 65, 128, 256, 1 << 32, math.MaxInt}

// P8.1: Open and Shut of all Streams, below each more, and of each more.
func TestStreams(t *testing.T) {
	for streams := range 256 {
		s := leased
		s.Streams = streams
		for _, more := range mores {
			held(t, s, api.Open, 2, more)
			held(t, s, api.Shut, 2, more)
		}
	}
	full := leased
	full.Streams = 255
	for _, more := range mores {
		cant(t, full, api.Open, 2, more)
		cant(t, api.Slot{State: api.Leased}, api.Shut, 0, more)
	}
}

// P8.1: streams are opened from the lowest one on, up to a limit, and what was shut is opened again.
func TestOpenedInOrder(t *testing.T) {
	for most := 1; most <= 8; most++ {
		s := api.Slot{State: api.Leased, Own: 4}
		for i := range most {
			var ok bool
			s, ok = life.Next(s, api.Open, 4, most)
			if s.Streams != 1<<(i+1)-1 || s.Version != i+1 || !ok {
				t.Fatalf("%d opened, of %d: %+v, %v", i+1, most, s, ok)
			}
		}
		cant(t, s, api.Open, 4, most)
		for i := range most {
			less, ok := life.Next(s, api.Shut, 4, i)
			if less.Streams != s.Streams-1<<i || !ok {
				t.Fatalf("%d shut, of %d: %+v, %v", i, most, less, ok)
			}
			if back, ok := life.Next(less, api.Open, 4, most); back.Streams != s.Streams || !ok {
				t.Fatalf("%d opened again, of %d: %+v, %v", i, most, back, ok)
			}
		}
	}
}

// P8.1: what is the greatest has 0 behind it; but Uses stay the greatest.
func TestGreatest(t *testing.T) {
	for _, x := range []struct {
		s    api.Slot
		do   int
		uses int
	}{
		{api.Slot{State: api.Dialing, Gen: 4095, Version: 32767}, api.Up, 1},
		{api.Slot{State: api.Idle, Uses: 63, Gen: 4095, Version: 32767}, api.Lease, 63},
		{api.Slot{State: api.Kept, Uses: 63, Gen: 4095, Version: 32767}, api.Take, 63},
		{api.Slot{State: api.Idle, Uses: 62, Gen: 4095, Version: 32767}, api.Lease, 63},
		{api.Slot{State: api.Kept, Uses: 62, Gen: 4095, Version: 32767}, api.Take, 63},
	} {
		check(t, x.s, x.do, 0, 0, api.Slot{State: api.Leased, Uses: x.uses}, true)
	}
	for gen := range 4096 {
		for _, version := range []int{0, gen, 32767 - gen, 32767} {
			s := api.Slot{State: api.Idle, Uses: 1, Gen: gen, Version: version}
			check(t, s, api.Lease, 0, 0, api.Slot{State: api.Leased, Uses: 2, Gen: next(gen, 4095), Version: next(version, 32767)}, true)
		}
	}
}

// P8.1: in each the Version is one more, and behind the greatest one it is 0; Gen is the same, but in a lease.
func TestVersions(t *testing.T) {
	still := leased
	still.Streams = 0
	plain := idle
	plain.Marked = false
	for _, x := range []struct {
		s  api.Slot
		do []int
	}{
		{empty, []int{api.Dial, api.Hold}},
		{dialing, []int{api.Up, api.Fail}},
		{plain, []int{api.Lease, api.Keep, api.Move, api.Mark, api.Retire, api.Break}},
		{still, []int{api.Rest, api.Retire, api.Break, api.Open}},
		{leased, []int{api.Shut}},
		{kept, []int{api.Unkeep, api.Break, api.Take}},
		{waited, []int{api.Unhold, api.Take}},
		{limbo, []int{api.Clear, api.Age}},
	} {
		for _, do := range x.do {
			for _, version := range []int{0, 1, 255, 4095, 32766, 32767} {
				s := x.s
				s.Version = version
				then, ok := life.Next(s, do, 2, 2)
				gen := s.Gen
				if then.State == api.Leased && s.State != api.Leased {
					gen++
				}
				if !ok || then.Version != next(version, 32767) || then.Gen != gen {
					t.Errorf("%s of %+v: %+v, %v", names[do], s, then, ok)
				}
			}
		}
	}
}

// P8.1: all that is done with slots that have numbers at the edges.
func TestAll(t *testing.T) {
	for _, s := range slots() {
		for do := range names {
			for _, own := range []int{0, 3, 15} {
				for _, more := range []int{-1, 0, 1, 7, 8, 4095, 4096} {
					held(t, s, do, own, more)
				}
			}
		}
	}
}

// P8.1: all that is done with any slots.
func TestAny(t *testing.T) {
	chance := rand.New(rand.NewPCG(8, 1))
	for range 200_000 {
		s := some(chance)
		own := chance.IntN(16)
		if chance.IntN(2) == 0 {
			own = s.Own
		}
		more := chance.IntN(10)
		if chance.IntN(3) == 0 {
			more = chance.IntN(5000) - 400
		}
		held(t, s, chance.IntN(18), own, more)
	}
}

// P8.1: nothing can be done with a slot that isn't right.
func TestWrongSlots(t *testing.T) {
	for what, s := range map[string]api.Slot{
		"a State below 0":             {State: -1},
		"a State that is none":        {State: 7},
		"an Empty one's Own":          {Own: 1},
		"an Empty one's Epoch":        {Epoch: 1},
		"a Gen below 0":               {Gen: -1},
		"a Gen that is too great":     {Gen: 4096},
		"a Version below 0":           {Version: -1},
		"a Version that is too great": {Version: 32768},
		"a Dialing one's Uses":        {State: api.Dialing, Own: 2, Uses: 1},
		"a Dialing one's Own":         {State: api.Dialing, Own: 16},
		"an Idle one's Streams":       {State: api.Idle, Own: 2, Streams: 1},
		"an Idle one's Uses":          {State: api.Idle, Own: 2, Uses: 64},
		"an Idle one's Own":           {State: api.Idle, Own: -1},
		"a Leased one's mark":         {State: api.Leased, Own: 2, Marked: true},
		"a Leased one's Streams":      {State: api.Leased, Own: 2, Streams: 256},
		"Streams below 0":             {State: api.Leased, Own: 2, Streams: -1},
		"a Kept one's mark":           {State: api.Kept, Own: 2, Marked: true},
		"a Held one that is Broken":   {State: api.Held, Own: 2, Broken: true},
		"Limbo's Own":                 {State: api.Limbo, Own: 2},
		"Limbo's Epoch":               {State: api.Limbo, Epoch: 4096},
	} {
		t.Run(what, func(t *testing.T) {
			for do := -1; do <= 18; do++ {
				for own := -1; own <= 16; own++ {
					for _, more := range []int{0, 2, 8} {
						cant(t, s, do, own, more)
					}
				}
			}
		})
	}
}

// far are numbers that are no owner's, nor of anything that is done.
var far = []int{math.MinInt, math.MinInt + 2, -1 << 32, -18, -16, -2, -1, 18, 19, 32, 34, 64, 256, 1 << 32, 1<<32 + 2, 1 << 62, math.MaxInt}

// P8.1: nothing is done by an owner that may not be, even where it doesn't matter whose the slot is.
func TestWrongOwners(t *testing.T) {
	still := leased
	still.Streams = 0
	plain := idle
	plain.Marked = false
	for _, s := range []api.Slot{empty, dialing, plain, still, leased, kept, waited, limbo} {
		for do := range names {
			for _, own := range append([]int{16, 17}, far...) {
				cant(t, s, do, own, 2)
			}
			for _, own := range []int{0, 15} {
				s.Own = trim(api.Slot{State: s.State, Own: own}).Own
				held(t, s, do, own, 2)
			}
		}
	}
}

// P8.1: what is none of the things that are done can't be.
func TestWrongDo(t *testing.T) {
	for _, s := range []api.Slot{empty, dialing, idle, leased, kept, waited, limbo} {
		for _, do := range far {
			cant(t, s, do, 2, 2)
			cant(t, s, do, 0, 0)
		}
	}
}

// P8.2: what is then is right, and has a word.
func TestRightThen(t *testing.T) {
	chance := rand.New(rand.NewPCG(8, 2))
	for range 200_000 {
		s := some(chance)
		own := s.Own
		if chance.IntN(2) == 0 {
			own = chance.IntN(16)
		}
		do, more := chance.IntN(18), chance.IntN(5000)-400
		if then, ok := life.Next(s, do, own, more); ok && !slot.Right(then) {
			t.Fatalf("Next(%+v, %d, %d, %d): %+v", s, do, own, more, then)
		}
	}
}

// P8.2: along a slot's life, whatever is done, what is then is right, and each lease has another Gen than the one ahead of it.
func TestLives(t *testing.T) {
	chance := rand.New(rand.NewPCG(8, 3))
	var s api.Slot
	last, leases := -1, 0
	for range 1_000_000 {
		then, ok := life.Next(s, chance.IntN(18), chance.IntN(3), chance.IntN(9))
		if !ok {
			continue
		}
		if !slot.Right(then) {
			t.Fatalf("behind %+v: %+v", s, then)
		}
		if then.State == api.Leased && s.State != api.Leased {
			if then.Gen == last || then.Gen != next(s.Gen, 4095) {
				t.Fatalf("a lease behind that of Gen %d: %+v, then %+v", last, s, then)
			}
			last = then.Gen
			leases++
		} else if then.Gen != s.Gen {
			t.Fatalf("no lease, but another Gen: %+v, then %+v", s, then)
		}
		s = then
	}
	if leases < 5000 {
		t.Errorf("%d leases alone: the Gens did not go round", leases)
	}
}

// P8.2: leases one behind the other have all Gens there are, ahead of any that comes back.
func TestGensComeBackLate(t *testing.T) {
	s := api.Slot{State: api.Idle}
	seen := map[int]bool{}
	for range 4096 {
		s, _ = life.Next(s, api.Lease, 1, 0)
		if s.State != api.Leased || seen[s.Gen] {
			t.Fatalf("%+v: %v", s, seen[s.Gen])
		}
		seen[s.Gen] = true
		s, _ = life.Next(s, api.Rest, 1, 0)
	}
}
