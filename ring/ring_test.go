package ring_test

import (
	"iter"
	"math"
	"runtime"
	"slices"
	"testing"
	"weak"

	"coachhouse/ring"
)

const mostRoom = 1000000

// stands asks how a line is; and it asks twice, since who only asks changes nothing.
func stands[T comparable](t *testing.T, what string, r *ring.Ring[T], room int, want ...T) {
	t.Helper()
	for range 2 {
		if got := r.Room(); got != room {
			t.Errorf("%s: Room: %d, want %d", what, got, room)
		}
		if got := r.Len(); got != len(want) {
			t.Errorf("%s: Len: %d, want %d", what, got, len(want))
		}
		if got := slices.Collect(r.All()); !slices.Equal(got, want) {
			t.Errorf("%s: All: %v, want %v", what, got, want)
		}
	}
}

func push[T any](t *testing.T, r *ring.Ring[T], xs ...T) {
	t.Helper()
	for _, x := range xs {
		if !r.Push(x) {
			t.Fatalf("Push(%v) with %d of %d: false", x, r.Len(), r.Room())
		}
	}
}

func pop[T comparable](t *testing.T, r *ring.Ring[T], want ...T) {
	t.Helper()
	for _, x := range want {
		if got, ok := r.Pop(); got != x || !ok {
			t.Fatalf("Pop: %v, %v, want %v", got, ok, x)
		}
	}
}

// empty asks that nothing is popped, more than once.
func empty[T comparable](t *testing.T, r *ring.Ring[T]) {
	t.Helper()
	var zero T
	for range 3 {
		if got, ok := r.Pop(); got != zero || ok {
			t.Errorf("Pop of an empty line: %v, %v", got, ok)
		}
	}
	stands(t, "popped an empty line", r, r.Room())
}

// turned is a line whose first one stands at a place further on than the first place.
func turned(t *testing.T, room, by int, xs ...int) *ring.Ring[int] {
	t.Helper()
	r := ring.New[int](room)
	for range room {
		push(t, r, -1)
	}
	for range by {
		pop(t, r, -1)
		push(t, r, -1)
	}
	for range room {
		pop(t, r, -1)
	}
	push(t, r, xs...)
	return r
}

// The chapter's example.
func TestExample(t *testing.T) {
	r := ring.New[int](2)
	if !r.Push(1) || !r.Push(2) {
		t.Error("Push 1, 2: false")
	}
	if r.Push(3) {
		t.Error("Push 3: true")
	}
	if x, ok := r.Pop(); x != 1 || !ok {
		t.Errorf("Pop: %d, %v", x, ok)
	}
	stands(t, "in the end", r, 2, 2)
}

// P3.1: an empty line, with that room, or with the nearest that may be.
func TestNew(t *testing.T) {
	for room, want := range map[int]int{
		0: 0, 1: 1, 2: 2, 3: 3, 4: 4, 7: 7, 8: 8, 9: 9, 1000: 1000, 4097: 4097,
		999998: 999998, 999999: 999999, 1000000: mostRoom, 1000001: mostRoom, 1000002: mostRoom, 1 << 20: mostRoom,
		1 << 32: mostRoom, 1<<32 + 5: mostRoom, 1 << 62: mostRoom, math.MaxInt - 1: mostRoom, math.MaxInt: mostRoom,
		-1: 0, -2: 0, -1000000: 0, -1000001: 0, -1 << 32: 0, -1<<32 + 5: 0, math.MinInt + 1: 0, math.MinInt: 0,
	} {
		r := ring.New[int](room)
		if r == nil {
			t.Fatalf("New(%d): nil", room)
		}
		stands(t, "new", r, want)
		empty(t, r)
	}
}

// P3.1, P3.2: the room that is told is the room that there is, filled more than once.
func TestRoomIsRoom(t *testing.T) {
	rooms := []int{4095, 4096, 4097, 65536, 999999, 1000000, 1000001, math.MaxInt}
	for room := range 70 {
		rooms = append(rooms, room)
	}
	for _, asked := range rooms {
		r := ring.New[int](asked)
		room := min(asked, mostRoom)
		for turn := range 2 {
			for i := range room {
				if r.Len() != i || !r.Push(turn+i) {
					t.Fatalf("room %d: Push with %d there: false, or Len %d", room, i, r.Len())
				}
			}
			for range 3 {
				if r.Push(-1) || r.Len() != room || r.Room() != room {
					t.Fatalf("room %d: Push with as many there: true, or Len %d, or Room %d", room, r.Len(), r.Room())
				}
			}
			for i := range room {
				if x, ok := r.Pop(); x != turn+i || !ok || r.Len() != room-1-i {
					t.Fatalf("room %d: Pop: %d, %v, want %d", room, x, ok, turn+i)
				}
			}
			empty(t, r)
		}
	}
}

// P3.1: where there is no room nothing ever stands.
func TestNoRoom(t *testing.T) {
	for _, room := range []int{0, -1, -5, math.MinInt} {
		r := ring.New[string](room)
		for range 3 {
			if r.Push("a") {
				t.Errorf("New(%d): Push: true", room)
			}
			stands(t, "no room", r, 0)
			empty(t, r)
		}
	}
}

// P3.1: there may be room for things so big that so many would fill no memory, while few of them stand.
func TestRoomForBigThings(t *testing.T) {
	type big [1 << 16]int
	r := ring.New[*big](mostRoom)
	push(t, r, new(big))
	s := ring.New[big](mostRoom)
	for i := range 5 {
		if !s.Push(big{1<<16 - 1: i}) {
			t.Fatal("Push: false")
		}
	}
	for i := range 5 {
		if x, ok := s.Pop(); !ok || x[1<<16-1] != i {
			t.Errorf("Pop: .. %d, %v, want %d", x[1<<16-1], ok, i)
		}
	}
}

// P3.2: nothing is done where the line is full, wherever its first one stands.
func TestPushOnFull(t *testing.T) {
	for by := range 9 {
		r := turned(t, 4, by, 10, 11, 12, 13)
		for _, x := range []int{14, 0, 10, 13} {
			if r.Push(x) {
				t.Errorf("Push(%d) on a full line: true", x)
			}
			stands(t, "pushed on a full line", r, 4, 10, 11, 12, 13)
		}
		pop(t, r, 10)
		push(t, r, 15)
		if r.Push(16) {
			t.Error("Push on a line that is full again: true")
		}
		stands(t, "full again", r, 4, 11, 12, 13, 15)
	}
}

// P3.2: where none stands there is the zero value, whatever stood there last.
func TestPopOfEmpty(t *testing.T) {
	type pair struct {
		a int
		b string
	}
	n := ring.New[int](3)
	s := ring.New[string](3)
	p := ring.New[*int](3)
	q := ring.New[pair](3)
	a := ring.New[any](3)
	five := 5
	for range 7 {
		empty(t, n)
		empty(t, s)
		empty(t, p)
		empty(t, q)
		empty(t, a)
		push(t, n, 5, 6)
		push(t, s, "five", "six")
		push(t, p, &five, &five)
		push(t, q, pair{5, "five"}, pair{6, "six"})
		push(t, a, 5, "six")
		pop(t, n, 5, 6)
		pop(t, s, "five", "six")
		pop(t, p, &five, &five)
		pop(t, q, pair{5, "five"}, pair{6, "six"})
		pop(t, a, 5, "six")
	}
}

// P3.2: a zero value is a thing like another one: it stands, and is told with true.
func TestZeroValuesStand(t *testing.T) {
	n := ring.New[int](3)
	push(t, n, 0, 0, 7)
	stands(t, "pushed", n, 3, 0, 0, 7)
	pop(t, n, 0, 0, 7)
	empty(t, n)
	p := ring.New[*int](2)
	push(t, p, nil, nil)
	if p.Push(nil) {
		t.Error("Push(nil) on a full line: true")
	}
	stands(t, "pushed", p, 2, nil, nil)
	pop(t, p, nil, nil)
	empty(t, p)
	type none struct{}
	z := ring.New[none](2)
	push(t, z, none{}, none{})
	if z.Push(none{}) {
		t.Error("Push of nothing on a full line: true")
	}
	stands(t, "pushed", z, 2, none{}, none{})
	pop(t, z, none{}, none{})
	empty(t, z)
}

// P3.2: what is alike stands as often as it was pushed.
func TestAlikeStandEach(t *testing.T) {
	r := ring.New[string](4)
	push(t, r, "a", "b", "a", "a")
	stands(t, "pushed", r, 4, "a", "b", "a", "a")
	pop(t, r, "a", "b")
	stands(t, "popped", r, 4, "a", "a")
}

// P3.2: all are told from the first to the last, wherever the first one stands, and however many stand there.
func TestAll(t *testing.T) {
	for room := range 9 {
		for by := range 2*room + 1 {
			for many := range room + 1 {
				var xs []int
				for i := range many {
					xs = append(xs, 10+i)
				}
				stands(t, "all", turned(t, room, by, xs...), room, xs...)
			}
		}
	}
}

// ahead are the first ones that an iterator tells, which is left with the last of them.
func ahead(all iter.Seq[int], many int) []int {
	var l []int
	for x := range all {
		l = append(l, x)
		if len(l) == many {
			break
		}
	}
	return l
}

// P3.2: it may be left at any time, and ranged over again.
func TestAllIsLeftAndRangedOverAgain(t *testing.T) {
	want := []int{10, 11, 12, 13, 14}
	for by := range 6 {
		r := turned(t, 5, by, want...)
		all := r.All()
		for many := 1; many <= 5; many++ {
			for range 2 {
				if got := ahead(all, many); !slices.Equal(got, want[:many]) {
					t.Errorf("left behind %d: %v", many, got)
				}
			}
			if got := slices.Collect(all); !slices.Equal(got, want) {
				t.Errorf("left behind %d, and ranged over again: %v", many, got)
			}
		}
		stands(t, "ranged over", r, 5, want...)
	}
}

// P3.2: it may be left from within another one, and each goes on by itself.
func TestAllWithinAll(t *testing.T) {
	r := turned(t, 3, 2, 1, 2, 3)
	all := r.All()
	var got []int
outer:
	for x := range all {
		for y := range all {
			if y > x {
				continue outer
			}
			got = append(got, 10*x+y)
			if x == 3 && y == 2 {
				break outer
			}
		}
	}
	if want := []int{11, 21, 22, 31, 32}; !slices.Equal(got, want) {
		t.Errorf("%v, want %v", got, want)
	}
	stands(t, "ranged over", r, 3, 1, 2, 3)
}

// P3.2: all are told as they stand when they are ranged over, not as they stood when it was answered.
func TestAllTellsWhoStandsThen(t *testing.T) {
	r := ring.New[int](3)
	all := r.All()
	told := func(what string, want ...int) {
		t.Helper()
		if got := slices.Collect(all); !slices.Equal(got, want) {
			t.Errorf("%s: %v, want %v", what, got, want)
		}
	}
	told("empty")
	push(t, r, 1)
	told("pushed 1", 1)
	push(t, r, 2, 3)
	told("pushed 2, 3", 1, 2, 3)
	pop(t, r, 1)
	told("popped 1", 2, 3)
	push(t, r, 4)
	told("pushed 4", 2, 3, 4)
	pop(t, r, 2, 3, 4)
	told("popped all")
	push(t, r, 5)
	told("pushed 5", 5)
}

// P3.2: an iterator of an empty line tells none, and is none that is nil.
func TestAllOfEmpty(t *testing.T) {
	for _, room := range []int{-1, 0, 1, 5, math.MaxInt} {
		all := ring.New[int](room).All()
		if all == nil {
			t.Fatalf("room %d: nil", room)
		}
		for x := range all {
			t.Errorf("room %d: tells %d", room, x)
		}
	}
}

// R1: where something is pushed, or popped, amid it nothing of what is told is promised, but it ends, and doesn't panic; and the line is right behind it.
func TestChangesAmidAll(t *testing.T) {
	for by := range 5 {
		r := turned(t, 4, by, 1, 2, 3)
		for range r.All() {
			r.Push(9)
		}
		stands(t, "pushed amid it", r, 4, 1, 2, 3, 9)
		var popped []int
		for range r.All() {
			if x, ok := r.Pop(); ok {
				popped = append(popped, x)
			}
		}
		for r.Len() > 0 {
			x, _ := r.Pop()
			popped = append(popped, x)
		}
		if !slices.Equal(popped, []int{1, 2, 3, 9}) {
			t.Errorf("popped amid it, and behind it: %v", popped)
		}
		empty(t, r)
	}
	r := ring.New[int](mostRoom)
	push(t, r, 0)
	for x := 1; x < 100; {
		for range r.All() {
			push(t, r, x)
			x++
			if x%3 == 0 {
				r.Pop()
			}
		}
	}
	first, _ := r.Pop()
	for n := first + 1; r.Len() > 0; n++ {
		pop(t, r, n)
	}
}

// R5: what is kept is kept, and told, as it is: a pointer is that pointer, a list is that list.
func TestThingsAreKeptAsTheyAre(t *testing.T) {
	one, two := 1, 2
	p := ring.New[*int](2)
	push(t, p, &one, &two)
	one = 7
	stands(t, "pointers", p, 2, &one, &two)
	if x, _ := p.Pop(); x != &one || *x != 7 {
		t.Error("another pointer was popped")
	}
	l := ring.New[[]int](2)
	list := []int{1, 2, 3}
	l.Push(list)
	list[1] = 9
	for x := range l.All() {
		if !slices.Equal(x, []int{1, 9, 3}) {
			t.Errorf("All: a list by itself: %v", x)
		}
	}
	if x, ok := l.Pop(); !ok || !slices.Equal(x, []int{1, 9, 3}) || &x[0] != &list[0] {
		t.Errorf("Pop: a list by itself: %v", x)
	}
	f := ring.New[func() int](2)
	f.Push(func() int { return 41 })
	if x, ok := f.Pop(); !ok || x() != 41 {
		t.Error("a function isn't what it was")
	}
	if x, ok := f.Pop(); ok || x != nil {
		t.Error("a function where none stands")
	}
}

// R5: what is answered is memory of its own: a thing that is a value is told as a copy.
func TestValuesAreCopies(t *testing.T) {
	type pair [2]int
	r := ring.New[pair](2)
	x := pair{1, 2}
	push(t, r, x)
	x[0] = 9
	stands(t, "pushed one changed", r, 2, pair{1, 2})
	for y := range r.All() {
		y[1] = 9
	}
	stands(t, "told one changed", r, 2, pair{1, 2})
	list := slices.Collect(r.All())
	list[0] = pair{9, 9}
	pop(t, r, pair{1, 2})
}

// R6: one line has nothing to do with another one.
func TestLinesByThemselves(t *testing.T) {
	a, b := ring.New[int](3), ring.New[int](3)
	push(t, a, 1, 2)
	push(t, b, 7)
	pop(t, a, 1)
	push(t, a, 3)
	stands(t, "the first line", a, 3, 2, 3)
	stands(t, "the other line", b, 3, 7)
}

// P3.3, with few calls: every run of pushes and pops, up to a length, in small rooms.
func TestShortRuns(t *testing.T) {
	const calls = 12
	for room := range 5 {
		for run := range 1 << calls {
			r, line := ring.New[int](room), []int(nil)
			for n := range calls {
				if run>>n&1 == 0 {
					line = pushBoth(t, r, room, line, n+1)
				} else {
					line = popBoth(t, r, line)
				}
			}
			if got := slices.Collect(r.All()); !slices.Equal(got, line) || r.Len() != len(line) || r.Room() != room {
				t.Fatalf("room %d, run %b: %v, want %v", room, run, got, line)
			}
		}
	}
}

// pushBoth has one more stand behind in the line and in the list that it should be.
func pushBoth(t *testing.T, r *ring.Ring[int], room int, line []int, x int) []int {
	t.Helper()
	fits := len(line) < room
	if r.Push(x) != fits {
		t.Fatalf("Push with %d of %d: %v", len(line), room, !fits)
	}
	if fits {
		line = append(line, x)
	}
	return line
}

// popBoth takes the first one of the line and of the list that it should be.
func popBoth(t *testing.T, r *ring.Ring[int], line []int) []int {
	t.Helper()
	x, ok := r.Pop()
	if len(line) == 0 {
		if x != 0 || ok {
			t.Fatalf("Pop of an empty line: %d, %v", x, ok)
		}
		return line
	}
	if x != line[0] || !ok {
		t.Fatalf("Pop: %d, %v, want %d", x, ok, line[0])
	}
	return line[1:]
}

// P3.3, P3.2, P3.1: long runs, that lean to pushing and to popping by turns, so that the line fills, empties, and goes round.
func TestLongRuns(t *testing.T) {
	for _, room := range []int{1, 2, 3, 5, 8, 31, 100, 1000, mostRoom} {
		r, line := ring.New[int](room), []int(nil)
		x := uint64(room)
		next := func(n int) int {
			x = x*6364136223846793005 + 1442695040888963407
			return int(x>>33) % n
		}
		for n := range 20000 {
			lean := 2 + n/(2*min(room, 1000)+10)%2*2
			if next(6) < lean {
				line = pushBoth(t, r, room, line, n+1)
			} else {
				line = popBoth(t, r, line)
			}
			if r.Len() != len(line) || r.Room() != room {
				t.Fatalf("room %d, call %d: Len %d, want %d; Room %d", room, n, r.Len(), len(line), r.Room())
			}
			if n%50 == 0 && !slices.Equal(slices.Collect(r.All()), line) {
				t.Fatalf("room %d, call %d: %v, want %v", room, n, slices.Collect(r.All()), line)
			}
		}
	}
}

// What has gone isn't kept by the line, which would hold in memory whatever it points to.
func TestWhatHasGoneIsNotKept(t *testing.T) {
	type thing struct {
		words [100]int
		self  *thing
	}
	r := ring.New[*thing](8)
	var gone []weak.Pointer[thing]
	for range 20 {
		for range 5 {
			x := new(thing)
			gone = append(gone, weak.Make(x))
			r.Push(x)
		}
		for range 5 {
			r.Pop()
		}
	}
	kept := func() int {
		many := 0
		for _, w := range gone {
			if w.Value() != nil {
				many++
			}
		}
		return many
	}
	for range 20 {
		runtime.GC()
		if kept() == 0 {
			break
		}
	}
	if many := kept(); many > 0 {
		t.Errorf("%d things that have gone are kept", many)
	}
	runtime.KeepAlive(r)
}
