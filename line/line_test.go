package line_test

import (
	"math"
	"math/rand/v2"
	"slices"
	"testing"

	"coachhouse/line"
)

// sum is a line's word, reckoned as the document has it: each one's number, and 1, times 16 to the power of its place.
func sum(l []int) int {
	q, power := 0, 1
	for _, who := range l {
		q += (who + 1) * power
		power *= 16
	}
	return q
}

// everybody is a line of all who may be.
func everybody() []int {
	var l []int
	for who := range line.MaxWho + 1 {
		l = append(l, who)
	}
	return l
}

// lines are some that are right: all of up to three, and longer ones, up to the longest, in several orders.
func lines() [][]int {
	all := [][]int{nil}
	for a := range line.MaxWho + 1 {
		all = append(all, []int{a})
		for b := range line.MaxWho + 1 {
			if b == a {
				continue
			}
			all = append(all, []int{a, b})
			for c := range line.MaxWho + 1 {
				if c != a && c != b {
					all = append(all, []int{a, b, c})
				}
			}
		}
	}
	chance := rand.New(rand.NewPCG(6, 15))
	for many := 4; many <= line.MaxLine; many++ {
		all = append(all, everybody()[:many])
		for range 20 {
			all = append(all, chance.Perm(line.MaxWho + 1)[:many])
		}
	}
	return all
}

// wrong are words that aren't right, by what is wrong with them.
func wrong() map[string]int {
	return map[string]int{
		"below 0":                       -1,
		"the least int":                 math.MinInt,
		"the greatest int":              math.MaxInt,
		"a right one with the sign":     0x12 | math.MinInt,
		"nobody at the first place":     0x10,
		"nobody in between":             0x101,
		"nobody far in between":         0x1_00000_00000_0002,
		"one twice":                     0x11,
		"one twice, others in between":  0x3213,
		"one twice of fifteen":          0xFEDCBA987654311,
		"fifteen times the same":        0xFFFFFFFFFFFFFFF,
		"a place beyond the last":       1 << 60,
		"one twice, beyond the last":    0x1EDCBA987654321F,
		"sixteen":                       0x7FEDCBA987654321,
		"the last one twice of sixteen": 0x7123456789ABCDEF,
	}
}

// has asks all that can be asked of a line's word; and it asks twice, since who only asks changes nothing.
func has(t *testing.T, what string, q int, want []int) {
	t.Helper()
	for range 2 {
		if q != sum(want) {
			t.Errorf("%s: the word %#x, want %#x of %v", what, q, sum(want), want)
		}
		if !line.Right(q) {
			t.Errorf("%s: Right(%#x): false", what, q)
		}
		if got := line.Len(q); got != len(want) {
			t.Errorf("%s: Len(%#x): %d, want %d", what, q, got, len(want))
		}
		if got := line.List(q); !slices.Equal(got, want) {
			t.Errorf("%s: List(%#x): %v, want %v", what, q, got, want)
		}
		first := 0
		if len(want) > 0 {
			first = want[0]
		}
		if who, ok := line.Head(q); who != first || ok != (len(want) > 0) {
			t.Errorf("%s: Head(%#x): %d, %v, want %d, %v", what, q, who, ok, first, len(want) > 0)
		}
		for who := -2; who <= line.MaxWho+2; who++ {
			if got := line.Has(q, who); got != slices.Contains(want, who) {
				t.Errorf("%s: Has(%#x, %d): %v", what, q, who, got)
			}
		}
	}
}

// The limits that the document names.
func TestLimits(t *testing.T) {
	if line.MaxWho != 14 || line.MaxLine != 15 {
		t.Error(line.MaxWho, line.MaxLine)
	}
}

// The chapter's examples.
func TestExamples(t *testing.T) {
	if q, ok := line.Of([]int{3, 0}); q != 20 || !ok {
		t.Errorf("Of 3, 0: %d, %v", q, ok)
	}
	if q, ok := line.Push(20, 5); q != 20+6*256 || !ok {
		t.Errorf("Push(20, 5): %d, %v", q, ok)
	}
}

// P6.1: of a line that is right Of is its word, and of that word Right, Len, List, Head and Has tell that line.
func TestRightLines(t *testing.T) {
	for _, l := range lines() {
		q, ok := line.Of(l)
		if !ok {
			t.Fatalf("Of(%v): false", l)
		}
		has(t, "Of", q, l)
	}
}

// P6.1: Right of each word of up to five digits, and of those below 0: whether it is a right line's.
func TestRightOfAllShortWords(t *testing.T) {
	right := map[int]bool{}
	var from func(l []int)
	from = func(l []int) {
		right[sum(l)] = true
		if len(l) == 5 {
			return
		}
		for who := range line.MaxWho + 1 {
			if !slices.Contains(l, who) {
				from(append(slices.Clone(l), who))
			}
		}
	}
	from(nil)
	for q := -1 << 8; q < 1<<20; q++ {
		if got := line.Right(q); got != right[q] {
			t.Fatalf("Right(%#x): %v", q, got)
		}
	}
}

// P6.1: Right of words that are wrong, the long ones too.
func TestWrongWords(t *testing.T) {
	for what, q := range wrong() {
		if line.Right(q) {
			t.Errorf("%s: Right(%#x): true", what, q)
		}
	}
}

// P6.1: Of a list that isn't a line: 0, and false; whatever its numbers would add up to.
func TestOfWrongLists(t *testing.T) {
	for what, l := range map[string][]int{
		"a number below 0":              {-1},
		"a number below 0, ahead":       {-1, 3},
		"a number below 0, behind":      {3, -1},
		"a number that is too great":    {15},
		"a number that is, behind":      {3, 15},
		"as much as two numbers":        {17},
		"as much as the one behind too": {3, 17},
		"the least int":                 {math.MinInt},
		"the greatest int":              {math.MaxInt},
		"one twice":                     {2, 2},
		"one twice, one in between":     {2, 3, 2},
		"one twice, first 0":            {0, 0},
		"one more than the longest":     append(everybody(), 0),
		"one more that may not be":      append(everybody(), 15),
		"one more that adds nothing":    append(everybody(), -1),
		"many":                          make([]int, 1_000_000),
	} {
		if q, ok := line.Of(l); q != 0 || ok {
			t.Errorf("%s: Of: %#x, %v", what, q, ok)
		}
	}
}

// P6.1, R4: Of a nil list and of an empty one is the empty line's word, 0.
func TestOfNobody(t *testing.T) {
	for _, l := range [][]int{nil, {}} {
		q, ok := line.Of(l)
		if q != 0 || !ok {
			t.Errorf("Of(%v): %d, %v", l, q, ok)
		}
		has(t, "nobody", q, nil)
	}
}

// P6.1, R5: Of changes nothing of a list, and List answers memory of its own.
func TestListsOfTheirOwn(t *testing.T) {
	l := everybody()
	q, _ := line.Of(l)
	if !slices.Equal(l, everybody()) {
		t.Errorf("Of changed its list: %v", l)
	}
	l[0] = 9
	has(t, "the list was changed", q, everybody())
	told := line.List(q)
	clear(told)
	has(t, "what was told was changed", q, everybody())
}

// P6.2: Push of each number: who isn't there stands behind all; who is, or may not be, doesn't.
func TestPush(t *testing.T) {
	numbers := []int{math.MinInt, -16, -2, -1, 15, 16, 17, 31, math.MaxInt}
	for _, l := range lines() {
		q := sum(l)
		for _, who := range append(everybody(), numbers...) {
			got, ok := line.Push(q, who)
			if who < 0 || who > line.MaxWho || slices.Contains(l, who) {
				if got != q || ok {
					t.Fatalf("Push(%#x, %d): %#x, %v", q, who, got, ok)
				}
				continue
			}
			if want := sum(append(slices.Clone(l), who)); got != want || !ok {
				t.Fatalf("Push(%#x, %d): %#x, %v, want %#x", q, who, got, ok, want)
			}
		}
	}
}

// P6.2: nobody comes, where there are MaxLine.
func TestPushFull(t *testing.T) {
	q := 0
	for who := line.MaxWho; who >= 0; who-- {
		longer, ok := line.Push(q, who)
		if !ok {
			t.Fatalf("Push(%#x, %d): false", q, who)
		}
		q = longer
	}
	if q != 0x123456789ABCDEF {
		t.Errorf("all: %#x", q)
	}
	for who := -20; who <= 20; who++ {
		if got, ok := line.Push(q, who); got != q || ok {
			t.Errorf("Push(%#x, %d): %#x, %v", q, who, got, ok)
		}
	}
}

// P6.2: Pop is without the first one; of nobody 0.
func TestPop(t *testing.T) {
	if got := line.Pop(0); got != 0 {
		t.Errorf("Pop(0): %#x", got)
	}
	for _, l := range lines() {
		for q := sum(l); len(l) > 0; {
			q, l = line.Pop(q), l[1:]
			if q != sum(l) {
				t.Fatalf("Pop: %#x, want %#x of %v", q, sum(l), l)
			}
		}
	}
}

// P6.2: Drop is without one, wherever it stands, the others in order; q, and false, if it isn't there.
func TestDrop(t *testing.T) {
	for _, l := range lines() {
		q := sum(l)
		for _, who := range append(everybody(), math.MinInt, -17, -1, 15, 16, 17, math.MaxInt) {
			got, ok := line.Drop(q, who)
			place := slices.Index(l, who)
			if place < 0 {
				if got != q || ok {
					t.Fatalf("Drop(%#x, %d): %#x, %v", q, who, got, ok)
				}
				continue
			}
			if want := sum(slices.Delete(slices.Clone(l), place, place+1)); got != want || !ok {
				t.Fatalf("Drop(%#x, %d): %#x, %v, want %#x", q, who, got, ok, want)
			}
		}
	}
}

// P6.3: who came first is the head, till it goes, whoever comes, and goes, behind.
func TestHeadStays(t *testing.T) {
	chance := rand.New(rand.NewPCG(6, 3))
	q := 0
	var l []int
	for range 20_000 {
		who := chance.IntN(line.MaxWho + 1)
		place := slices.Index(l, who)
		var ok bool
		switch {
		case place < 0:
			q, ok = line.Push(q, who)
			l = append(l, who)
		case place == 0 && chance.IntN(2) == 0:
			q, ok = line.Pop(q), true
			l = l[1:]
		default:
			q, ok = line.Drop(q, who)
			l = slices.Delete(l, place, place+1)
		}
		head, some := line.Head(q)
		if !ok || some != (len(l) > 0) || some && head != l[0] {
			t.Fatalf("%d comes, or goes: %v; head %d, %v, want that of %v", who, ok, head, some, l)
		}
	}
	has(t, "in the end", q, l)
}

// R1: whatever the words, and the numbers, each call ends, and none panics; R6: asked again, it answers the same.
func TestAnyWords(t *testing.T) {
	numbers := []int{math.MinInt, -1, 0, 1, 7, 14, 15, 16, math.MaxInt}
	words := slices.Clone(numbers)
	for _, q := range wrong() {
		words = append(words, q, ^q)
	}
	chance := rand.New(rand.NewPCG(6, 1))
	for range 1000 {
		words = append(words, int(chance.Uint64()))
	}
	for _, q := range words {
		for _, who := range numbers {
			if a, b := answers(q, who), answers(q, who); !slices.Equal(a, b) {
				t.Fatalf("of %#x and %d: %v, then %v", q, who, a, b)
			}
			if x, ok := line.Push(q, who); !ok && x != q {
				t.Fatalf("Push(%#x, %d): %#x, false", q, who, x)
			}
			if x, ok := line.Drop(q, who); !ok && x != q {
				t.Fatalf("Drop(%#x, %d): %#x, false", q, who, x)
			}
		}
	}
}

// answers are what all the calls answer, in a row.
func answers(q, who int) []int {
	l := append(line.List(q), line.Len(q), line.Pop(q))
	for _, call := range []func() (int, bool){
		func() (int, bool) { return 0, line.Right(q) },
		func() (int, bool) { return line.Of([]int{who, q}) },
		func() (int, bool) { return line.Head(q) },
		func() (int, bool) { return 0, line.Has(q, who) },
		func() (int, bool) { return line.Push(q, who) },
		func() (int, bool) { return line.Drop(q, who) },
	} {
		x, ok := call()
		if ok {
			l = append(l, 1)
		}
		l = append(l, x)
	}
	return l
}
