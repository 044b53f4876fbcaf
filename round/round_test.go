package round_test

import (
	"errors"
	"iter"
	"math"
	"slices"
	"strings"
	"testing"

	"coachhouse/round"
)

const (
	mostMany = 100000
	endless  = math.MaxInt
)

// told asks what an iterator tells; and it ranges twice, since each may be ranged over again.
func told[T comparable](t *testing.T, what string, s iter.Seq[T], want ...T) {
	t.Helper()
	if s == nil {
		t.Fatalf("%s: nil", what)
	}
	for n := range 2 {
		if got := slices.Collect(s); !slices.Equal(got, want) {
			t.Errorf("%s, range %d: %v, want %v", what, n+1, got, want)
		}
	}
}

// ahead are the first ones that an iterator tells, which is left with the last of them.
func ahead[T any](s iter.Seq[T], many int) []T {
	var l []T
	for x := range s {
		l = append(l, x)
		if len(l) == many {
			break
		}
	}
	return l
}

// source tells 1, 2, and so on, up to a last one, and counts.
type source struct {
	last   int
	ranges int
	asked  int
	ended  int
}

func (c *source) all(yield func(int) bool) {
	c.ranges++
	defer func() { c.ended++ }()
	for n := 1; n <= c.last; n++ {
		c.asked++
		if !yield(n) {
			return
		}
	}
}

// counts asks how often a source was ranged over, and how many ones of it were asked for.
func (c *source) counts(t *testing.T, what string, ranges, asked int) {
	t.Helper()
	if c.ranges != ranges || c.asked != asked || c.ended != ranges {
		t.Errorf("%s: ranged over %d times, left or ended %d times, %d asked for, want %d, %d, %d", what, c.ranges, c.ended, c.asked, ranges, ranges, asked)
	}
}

func odd(n int) bool    { return n%2 != 0 }
func always(n int) bool { return true }
func never(n int) bool  { return false }

// The chapter's examples.
func TestExamples(t *testing.T) {
	told(t, "Of(5, 3)", round.Of(5, 3), 3, 4, 0, 1, 2)
	told(t, "Second of it", round.Second(round.Of(5, 3)), 3, 0, 2)
	if got := round.List(round.Second(round.Of(5, 3))); !slices.Equal(got, []int{3, 0, 2}) {
		t.Errorf("List: %v", got)
	}
}

// P4.1: from each one on, and round.
func TestOf(t *testing.T) {
	for many := -4; many <= 40; many++ {
		for from := -6; from <= 46; from++ {
			var want []int
			for i := range max(many, 0) {
				n := i
				if from >= 0 && from < many {
					n = (from + i) % many
				}
				want = append(want, n)
			}
			told(t, "Of", round.Of(many, from), want...)
		}
	}
}

// P4.1: none, if many is below 1, whatever from is.
func TestOfNone(t *testing.T) {
	for _, many := range []int{0, -1, -2, -100000, -100001, -1 << 32, -1<<32 + 5, math.MinInt + 1, math.MinInt} {
		for _, from := range []int{0, 1, -1, 2, -2, many, many + 1, many - 1, 100000, math.MaxInt, math.MinInt} {
			told(t, "Of none", round.Of(many, from))
		}
	}
}

// P4.1: a from that is none of the numbers counts as 0.
func TestOfFromThatIsNone(t *testing.T) {
	for _, from := range []int{-1, -2, -3, -4, -1 << 32, -1<<32 + 1, math.MinInt, math.MinInt + 1, 3, 4, 5, 6, 7, 1 << 32, 1<<32 + 1, math.MaxInt - 1, math.MaxInt} {
		told(t, "Of(3, ..)", round.Of(3, from), 0, 1, 2)
		told(t, "Of(1, ..)", round.Of(1, from), 0)
	}
}

// P4.1: no more than 100,000 are told; a many above that counts as it, also for what from may be.
func TestOfMany(t *testing.T) {
	for _, many := range []int{99998, 99999, 100000, 100001, 100002, 200000, 1 << 32, 1<<32 + 5, math.MaxInt - 1, math.MaxInt} {
		last := min(many, mostMany)
		for _, from := range []int{0, 1, 50000, 99996, 99997, 99998, 99999, 100000, 100001, 150000, math.MaxInt - 1, math.MaxInt, -1, math.MinInt} {
			want := from
			if from < 0 || from >= last {
				want = 0
			}
			told := 0
			for n := range round.Of(many, from) {
				if n != want {
					t.Fatalf("Of(%d, %d): behind %d: %d, want %d", many, from, told, n, want)
				}
				told++
				want = (want + 1) % last
			}
			if told != last {
				t.Errorf("Of(%d, %d): tells %d, want %d", many, from, told, last)
			}
		}
	}
}

// P4.3: it may be left at any time, ahead of where it goes round, there, and behind; and ranged over again.
func TestOfIsLeft(t *testing.T) {
	for many := 1; many <= 6; many++ {
		for from := range many {
			s := round.Of(many, from)
			whole := slices.Collect(s)
			for k := 1; k <= many; k++ {
				if got := ahead(s, k); !slices.Equal(got, whole[:k]) {
					t.Errorf("Of(%d, %d), left behind %d: %v", many, from, k, got)
				}
				told(t, "left, and ranged over again", s, whole...)
			}
		}
	}
}

// P4.2: those that fit, in order.
func TestWhere(t *testing.T) {
	s := round.Of(7, 2)
	told(t, "odd", round.Where(s, odd), 3, 5, 1)
	told(t, "above 3", round.Where(s, func(n int) bool { return n > 3 }), 4, 5, 6)
	told(t, "the first", round.Where(s, func(n int) bool { return n == 2 }), 2)
	told(t, "the last", round.Where(s, func(n int) bool { return n == 1 }), 1)
	told(t, "always", round.Where(s, always), 2, 3, 4, 5, 6, 0, 1)
	told(t, "never", round.Where(s, never))
	told(t, "of none", round.Where(round.Of(0, 0), always))
	words := slices.Values([]string{"b", "", "a", "b", "", "c"})
	told(t, "words", round.Where(words, func(w string) bool { return w != "a" }), "b", "", "b", "", "c")
	told(t, "words that are empty", round.Where(words, func(w string) bool { return w == "" }), "", "")
}

// P4.2: each subset of a few is picked by what tells true of it.
func TestWhereSubsets(t *testing.T) {
	for many := range 9 {
		for set := range 1 << many {
			fits := func(n int) bool { return set>>n&1 == 1 }
			var want []int
			for n := range many {
				if fits(n) {
					want = append(want, n)
				}
			}
			told(t, "subset", round.Where(round.Of(many, 0), fits), want...)
		}
	}
}

// P4.2: the first one, the third one, and so on.
func TestSecond(t *testing.T) {
	var whole, want []string
	for i := range 40 {
		told(t, "Second", round.Second(slices.Values(whole)), want...)
		word := strings.Repeat("x", i%7)
		whole = append(whole, word)
		if i%2 == 0 {
			want = append(want, word)
		}
	}
}

// P4.2: the first ones, as many as many says, none, or all.
func TestFirst(t *testing.T) {
	for many := range 12 {
		list := make([]int, many)
		for i := range list {
			list[i] = 7 - i%5
		}
		s := slices.Values(list)
		for k := range 15 {
			told(t, "First", round.First(s, k), list[:min(k, many)]...)
		}
		for _, k := range []int{100, 100000, 100001, 1 << 32, 1<<32 + 1, math.MaxInt - 1, math.MaxInt} {
			told(t, "First, and not so many there", round.First(s, k), list...)
		}
		for _, k := range []int{0, -1, -2, -100, -1 << 32, -1<<32 + 1, math.MinInt + 1, math.MinInt} {
			told(t, "First, below 1", round.First(s, k))
		}
	}
}

// P4.2: First has no limit of its own.
func TestFirstOfMany(t *testing.T) {
	c := &source{last: endless}
	n := 0
	for x := range round.First(c.all, 250000) {
		n++
		if x != n {
			t.Fatalf("%d, want %d", x, n)
		}
	}
	if n != 250000 {
		t.Errorf("tells %d", n)
	}
	c.counts(t, "First of many", 1, 250000)
}

// P4.2: First asks for no more than it tells; none at all where it tells none.
func TestFirstAsksForNoMore(t *testing.T) {
	for _, last := range []int{endless, 10} {
		for k := range 10 {
			c := &source{last: last}
			if got := round.List(round.First(c.all, k)); len(got) != k {
				t.Errorf("First %d: %v", k, got)
			}
			if c.asked != k {
				t.Errorf("First %d: %d asked for", k, c.asked)
			}
		}
		for _, k := range []int{0, -1, -7, math.MinInt} {
			c := &source{last: last}
			told(t, "First, below 1", round.First(c.all, k))
			if c.asked != 0 {
				t.Errorf("First %d: %d asked for", k, c.asked)
			}
		}
	}
	c := &source{last: 10}
	told(t, "just as many", round.First(c.all, 10), 1, 2, 3, 4, 5, 6, 7, 8, 9, 10)
	c.counts(t, "just as many", 2, 20)
}

// P4.2: First asks the others for no more, and so no more is asked for that they are of.
func TestFirstOfTheOthers(t *testing.T) {
	for k := 1; k <= 6; k++ {
		c := &source{last: endless}
		told(t, "First of Second", round.First(round.Second(c.all), k), []int{1, 3, 5, 7, 9, 11}[:k]...)
		c.counts(t, "First of Second", 2, 2*(2*k-1))
		c = &source{last: endless}
		fits := func(n int) bool { return n%3 == 0 }
		told(t, "First of Where", round.First(round.Where(c.all, fits), k), []int{3, 6, 9, 12, 15, 18}[:k]...)
		c.counts(t, "First of Where", 2, 2*3*k)
		c = &source{last: endless}
		told(t, "First of First", round.First(round.First(c.all, 4), k), []int{1, 2, 3, 4}[:min(k, 4)]...)
		c.counts(t, "First of First", 2, 2*min(k, 4))
		c = &source{last: endless}
		told(t, "Second of First", round.Second(round.First(c.all, k)), []int{1, 3, 5}[:(k+1)/2]...)
		c.counts(t, "Second of First", 2, 2*k)
	}
}

// P4.2: all, in order, also what is alike; R4: none is an empty list.
func TestList(t *testing.T) {
	if got := round.List(round.Of(0, 0)); len(got) != 0 {
		t.Errorf("of none: %v", got)
	}
	if got := round.List(round.Of(6, 4)); !slices.Equal(got, []int{4, 5, 0, 1, 2, 3}) {
		t.Errorf("Of(6, 4): %v", got)
	}
	words := []string{"b", "a", "", "b", "b", ""}
	if got := round.List(slices.Values(words)); !slices.Equal(got, words) {
		t.Errorf("words: %v", got)
	}
	for many := range 70 {
		c := &source{last: many}
		got := round.List(c.all)
		if len(got) != many {
			t.Errorf("%d: %v", many, got)
		}
		for i, n := range got {
			if n != i+1 {
				t.Fatalf("%d: %v", many, got)
			}
		}
		c.counts(t, "List", 1, many)
	}
	if got := round.List(round.Of(math.MaxInt, 99999)); len(got) != mostMany || got[0] != 99999 || got[1] != 0 || got[99999] != 99998 {
		t.Errorf("Of(MaxInt, 99999): %d of them", len(got))
	}
}

// P4.2: things of any type are told as they are.
func TestAnyType(t *testing.T) {
	type pair struct {
		a int
		b string
	}
	pairs := slices.Values([]pair{{1, "a"}, {2, "b"}, {}, {1, "a"}})
	told(t, "pairs", round.Second(pairs), pair{1, "a"}, pair{})
	told(t, "pairs", round.First(pairs, 3), pair{1, "a"}, pair{2, "b"}, pair{})
	told(t, "pairs", round.Where(pairs, func(p pair) bool { return p.a == 1 }), pair{1, "a"}, pair{1, "a"})
	one, two := 1, 1
	points := slices.Values([]*int{&one, nil, &two, &one})
	told(t, "pointers", round.Second(points), &one, &two)
	told(t, "pointers", round.Where(points, func(p *int) bool { return p != &one }), nil, &two)
	told(t, "anything", round.First(slices.Values([]any{1, "a", nil, 2}), 3), any(1), "a", nil)
	if got := round.List(points); !slices.Equal(got, []*int{&one, nil, &two, &one}) {
		t.Errorf("pointers: %v", got)
	}
	lists := slices.Values([][]int{{1}, nil, {2, 3}})
	if got := round.List(round.Second(lists)); len(got) != 2 || !slices.Equal(got[1], []int{2, 3}) {
		t.Errorf("lists: %v", got)
	}
	calls := slices.Values([]func() int{func() int { return 5 }, nil, func() int { return 6 }})
	fits := func(f func() int) bool { return f != nil && f() == 6 }
	if got := round.List(round.Where(calls, fits)); len(got) != 1 || got[0]() != 6 {
		t.Errorf("functions: %d of them", len(got))
	}
}

// picks are the calls that pick of another iterator; at tells which one of 1, 2, .. is the last one of the first k that are picked.
var picks = []struct {
	what string
	of   func(iter.Seq[int]) iter.Seq[int]
	at   func(k int) int
}{
	{"Where odd", func(s iter.Seq[int]) iter.Seq[int] { return round.Where(s, odd) }, func(k int) int { return 2*k - 1 }},
	{"Where always", func(s iter.Seq[int]) iter.Seq[int] { return round.Where(s, always) }, func(k int) int { return k }},
	{"Second", round.Second[int], func(k int) int { return 2*k - 1 }},
	{"First 1000", func(s iter.Seq[int]) iter.Seq[int] { return round.First(s, 1000) }, func(k int) int { return k }},
	{"First MaxInt", func(s iter.Seq[int]) iter.Seq[int] { return round.First(s, math.MaxInt) }, func(k int) int { return k }},
}

// P4.3: each may be left at any time, then what it is of isn't asked any more; and ranged over again, from the start.
func TestEachIsLeft(t *testing.T) {
	for _, p := range picks {
		for k := 1; k <= 6; k++ {
			c := &source{last: endless}
			s := p.of(c.all)
			for n := range 3 {
				var want []int
				for i := 1; i <= k; i++ {
					want = append(want, p.at(i))
				}
				if got := ahead(s, k); !slices.Equal(got, want) {
					t.Errorf("%s, left behind %d: %v, want %v", p.what, k, got, want)
				}
				c.counts(t, p.what, n+1, (n+1)*p.at(k))
			}
		}
	}
}

// P4.3: it may be left with a word to a loop further out, or by return, or by a call that tells false.
func TestEachIsLeftInAnyWay(t *testing.T) {
	for _, p := range picks {
		c := &source{last: endless}
		s := p.of(c.all)
		found := func() int {
			for x := range s {
				if x >= 5 {
					return x
				}
			}
			return 0
		}
		if x := found(); x != 5 {
			t.Errorf("%s, left by return: %d", p.what, x)
		}
		c.counts(t, p.what, 1, 5)
		rounds := 0
	outer:
		for {
			for x := range s {
				if x < 3 {
					continue
				}
				rounds++
				if rounds == 3 {
					break outer
				}
				continue outer
			}
		}
		c.counts(t, p.what, 4, 5+3*3)
		calls := 0
		s(func(x int) bool {
			calls++
			return false
		})
		if calls != 1 {
			t.Errorf("%s: told %d behind a false", p.what, calls-1)
		}
		c.counts(t, p.what, 5, 5+3*3+1)
	}
}

// P4.3: two ranges over one iterator, one within the other, have nothing to do with each other.
func TestRangesWithinEachOther(t *testing.T) {
	for _, x := range []struct {
		what string
		s    iter.Seq[int]
	}{
		{"Of", round.Of(3, 2)},
		{"Where", round.Where(round.Of(6, 5), func(n int) bool { return n > 3 || n == 0 })},
		{"Second", round.Second(round.Of(6, 1))},
		{"Second, an odd number", round.Second(round.Of(5, 1))},
		{"First", round.First(round.Of(9, 7), 3)},
	} {
		whole := slices.Collect(x.s)
		if len(whole) != 3 {
			t.Fatalf("%s: %v", x.what, whole)
		}
		var got, want []int
		for _, a := range whole {
			want = append(want, 10*a+whole[0], 10*a+whole[1], 10*a+whole[2], 10*a+whole[0])
		}
		for a := range x.s {
			for b := range x.s {
				got = append(got, 10*a+b)
			}
			for b := range x.s {
				got = append(got, 10*a+b)
				break
			}
		}
		if !slices.Equal(got, want) {
			t.Errorf("%s: %v, want %v", x.what, got, want)
		}
	}
}

// P4.3: what is told hangs on what s tells then, not on what it told when the iterator was answered.
func TestRangedOverAgainTellsAnew(t *testing.T) {
	var list []int
	s := func(yield func(int) bool) {
		for _, x := range list {
			if !yield(x) {
				return
			}
		}
	}
	where, second, first := round.Where(s, odd), round.Second(s), round.First(s, 2)
	told(t, "Where of none", where)
	told(t, "Second of none", second)
	told(t, "First of none", first)
	list = []int{4, 3, 2, 1}
	told(t, "Where", where, 3, 1)
	told(t, "Second", second, 4, 2)
	told(t, "First", first, 4, 3)
	list = []int{9}
	told(t, "Where", where, 9)
	told(t, "Second", second, 9)
	told(t, "First", first, 9)
}

// P4.3: an s that may be ranged over once, and goes on where it was left, loses nothing of what wasn't told.
func TestWhatGoesOnLosesNothing(t *testing.T) {
	at := 0
	s := func(yield func(int) bool) {
		for at < 12 {
			at++
			if !yield(at) {
				return
			}
		}
	}
	for _, x := range []struct {
		what string
		s    iter.Seq[int]
		want []int
	}{
		{"First 0", round.First(s, 0), nil},
		{"First 3", round.First(s, 3), []int{1, 2, 3}},
		{"First of Second", round.First(round.Second(s), 2), []int{4, 6}},
		{"First of Where", round.First(round.Where(s, odd), 1), []int{7}},
		{"First 1", round.First(s, 1), []int{8}},
		{"First 9", round.First(s, 9), []int{9, 10, 11, 12}},
		{"all is told", s, nil},
	} {
		if got := round.List(x.s); !slices.Equal(got, x.want) {
			t.Errorf("%s: %v, want %v", x.what, got, x.want)
		}
	}
}

var errAmid = errors.New("amid")

// panics asks that a panic goes through, as it is, behind what was told ahead of it.
func panics(t *testing.T, what string, want []int, do func(tell func(int))) {
	t.Helper()
	var got []int
	defer func() {
		t.Helper()
		if why := recover(); why != errAmid {
			t.Errorf("%s: panics with %v", what, why)
		}
		if !slices.Equal(got, want) {
			t.Errorf("%s: told %v ahead of it, want %v", what, got, want)
		}
	}()
	do(func(n int) { got = append(got, n) })
	t.Errorf("%s: no panic", what)
}

// P4.2: where s, or fits, panics, that goes through to who ranges.
func TestPanicsGoThrough(t *testing.T) {
	s := func(yield func(int) bool) {
		for n := range 4 {
			if !yield(n) {
				return
			}
		}
		panic(errAmid)
	}
	fits := func(n int) bool {
		if n == 3 {
			panic(errAmid)
		}
		return n != 1
	}
	each := func(s iter.Seq[int]) func(func(int)) {
		return func(tell func(int)) {
			for n := range s {
				tell(n)
			}
		}
	}
	for range 2 {
		panics(t, "Where", []int{1, 3}, each(round.Where(s, odd)))
		panics(t, "Second", []int{0, 2}, each(round.Second(s)))
		panics(t, "First", []int{0, 1, 2, 3}, each(round.First(s, 5)))
		panics(t, "List", nil, func(func(int)) { round.List(s) })
		panics(t, "fits", []int{0, 2}, each(round.Where(round.Of(9, 0), fits)))
		panics(t, "fits, further in", []int{0}, each(round.Second(round.Where(round.Of(9, 0), fits))))
		panics(t, "fits, in List", nil, func(func(int)) { round.List(round.Where(round.Of(9, 0), fits)) })
	}
	told(t, "left ahead of a panic of s", round.First(s, 4), 0, 1, 2, 3)
	told(t, "left ahead of a panic of fits", round.First(round.Where(round.Of(9, 0), fits), 2), 0, 2)
}

// P4.2, R1: no call panics itself: what would is ranged over, or not.
func TestCallsThemselvesDoNotPanic(t *testing.T) {
	s := func(func(int) bool) { panic(errAmid) }
	fits := func(int) bool { panic(errAmid) }
	if round.Where(s, fits) == nil || round.Second(s) == nil || round.First(s, 1) == nil {
		t.Error("an iterator is nil")
	}
	told(t, "First 0", round.First(s, 0))
	told(t, "First of Where", round.First(round.Where(s, fits), -1))
	told(t, "fits isn't asked of none", round.Where(round.Of(0, 0), fits))
}

// R5: a list that is answered is memory of its own, and what is picked changes nothing of what it is picked of.
func TestListsByThemselves(t *testing.T) {
	words := []string{"a", "b", "c", "d"}
	s := slices.Values(words)
	one, other := round.List(s), round.List(s)
	one[0], one[3] = "x", "y"
	_ = append(one[:1], "z", "z")
	if !slices.Equal(other, []string{"a", "b", "c", "d"}) || !slices.Equal(words, []string{"a", "b", "c", "d"}) {
		t.Errorf("one list changed: the other %v, the words %v", other, words)
	}
	words[1] = "w"
	if !slices.Equal(other, []string{"a", "b", "c", "d"}) {
		t.Errorf("the words changed: the list %v", other)
	}
	round.List(round.Where(round.Second(round.First(s, 3)), func(string) bool { return true }))
	if !slices.Equal(words, []string{"a", "w", "c", "d"}) {
		t.Errorf("the words: %v", words)
	}
}

// R6: two iterators of one s have nothing to do with each other.
func TestIteratorsByThemselves(t *testing.T) {
	s := round.Of(8, 0)
	a, b := round.Second(s), round.Second(s)
	c, d := round.First(s, 2), round.First(s, 5)
	ahead(a, 1)
	ahead(c, 1)
	told(t, "the other Second", b, 0, 2, 4, 6)
	told(t, "the other First", d, 0, 1, 2, 3, 4)
	told(t, "the Second that was left", a, 0, 2, 4, 6)
	told(t, "the First that was left", c, 0, 1)
}

// pick picks of an iterator, and of the list that it should tell, in one of some ways.
func pick(s iter.Seq[int], list []int, way int) (iter.Seq[int], []int) {
	switch {
	case way < 3:
		fits := func(n int) bool { return n%3 != way }
		return round.Where(s, fits), slices.DeleteFunc(slices.Clone(list), func(n int) bool { return !fits(n) })
	case way < 6:
		var each []int
		for i := 0; i < len(list); i += 2 {
			each = append(each, list[i])
		}
		return round.Second(s), each
	}
	many := way - 8
	return round.First(s, many), list[:min(max(many, 0), len(list))]
}

// P4.1 to P4.3: picked of what was picked, some times; left anywhere, and ranged over again.
func TestChains(t *testing.T) {
	const ways = 20
	x := uint64(4)
	next := func(n int) int {
		x = x*6364136223846793005 + 1442695040888963407
		return int(x>>33) % n
	}
	for range 20000 {
		many, from := next(30)-2, next(34)-2
		s := round.Of(many, from)
		start := from
		if from < 0 || from >= many {
			start = 0
		}
		var list []int
		for i := range max(many, 0) {
			list = append(list, (start+i)%many)
		}
		for range next(5) {
			s, list = pick(s, list, next(ways))
		}
		if got := round.List(s); !slices.Equal(got, list) {
			t.Fatalf("Of(%d, %d), picked of: %v, want %v", many, from, got, list)
		}
		if len(list) > 0 {
			k := 1 + next(len(list))
			if got := ahead(s, k); !slices.Equal(got, list[:k]) {
				t.Fatalf("Of(%d, %d), picked of, left behind %d: %v, want %v", many, from, k, got, list[:k])
			}
		}
		told(t, "picked of", s, list...)
	}
}
