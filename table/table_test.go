package table_test

import (
	"cmp"
	"iter"
	"math"
	"math/bits"
	"runtime"
	"slices"
	"strings"
	"testing"
	"weak"

	"coachhouse/table"
)

// two is a key, and what is kept under it.
type two[K cmp.Ordered, V any] struct {
	k K
	v V
}

// listed is all that an iterator of two tells.
func listed[K cmp.Ordered, V any](all iter.Seq2[K, V]) []two[K, V] {
	var l []two[K, V]
	for k, v := range all {
		l = append(l, two[K, V]{k, v})
	}
	return l
}

// ahead are the first ones that an iterator tells, which is left with the last of them.
func ahead[K cmp.Ordered, V any](all iter.Seq2[K, V], many int) []two[K, V] {
	var l []two[K, V]
	for k, v := range all {
		l = append(l, two[K, V]{k, v})
		if len(l) == many {
			break
		}
	}
	return l
}

// has asks all that can be asked of a table; and it asks twice, since who only asks changes nothing.
func has[K cmp.Ordered, V comparable](t *testing.T, what string, x *table.Table[K, V], want ...two[K, V]) {
	t.Helper()
	for range 2 {
		if got := x.Len(); got != len(want) {
			t.Errorf("%s: Len: %d, want %d", what, got, len(want))
		}
		if got := listed(x.All()); !slices.Equal(got, want) {
			t.Errorf("%s: All: %v, want %v", what, got, want)
		}
		for _, w := range want {
			if v, ok := x.Get(w.k); v != w.v || !ok {
				t.Errorf("%s: Get(%v): %v, %v, want %v", what, w.k, v, ok, w.v)
			}
		}
		var least two[K, V]
		if len(want) > 0 {
			least = want[0]
		}
		if k, v, ok := x.Least(); k != least.k || v != least.v || ok != (len(want) > 0) {
			t.Errorf("%s: Least: %v, %v, %v, want %v", what, k, v, ok, least)
		}
	}
}

// lacks asks that nothing is kept under some keys.
func lacks[K cmp.Ordered, V comparable](t *testing.T, what string, x *table.Table[K, V], keys ...K) {
	t.Helper()
	var zero V
	many := x.Len()
	for _, k := range keys {
		if v, ok := x.Get(k); v != zero || ok {
			t.Errorf("%s: Get(%v): %v, %v", what, k, v, ok)
		}
		if x.Drop(k) {
			t.Errorf("%s: Drop(%v): true", what, k)
		}
	}
	if x.Len() != many {
		t.Errorf("%s: dropped what isn't there: Len: %d, want %d", what, x.Len(), many)
	}
}

func put[K cmp.Ordered, V any](t *testing.T, x *table.Table[K, V], k K, v V, want bool) {
	t.Helper()
	if got := x.Put(k, v); got != want {
		t.Fatalf("Put(%v, %v): %v", k, v, got)
	}
}

func drop[K cmp.Ordered, V any](t *testing.T, x *table.Table[K, V], k K) {
	t.Helper()
	if !x.Drop(k) {
		t.Fatalf("Drop(%v): false", k)
	}
}

// filled is a table with ten times each key.
func filled(t *testing.T, keys ...int) *table.Table[int, int] {
	t.Helper()
	x := table.New[int, int]()
	for _, k := range keys {
		put(t, x, k, 10*k, false)
	}
	return x
}

// tens are keys with ten times each.
func tens(keys ...int) []two[int, int] {
	var l []two[int, int]
	for _, k := range keys {
		l = append(l, two[int, int]{k, 10 * k})
	}
	return l
}

// below are the numbers from 0 to many - 1.
func below(many int) []int {
	var l []int
	for n := range many {
		l = append(l, n)
	}
	return l
}

// orders tells each order of some keys; the list that is told is only good till the next one.
func orders(keys []int) iter.Seq[[]int] {
	return func(yield func([]int) bool) {
		l := slices.Clone(keys)
		var from func(int) bool
		from = func(at int) bool {
			if at == len(l) {
				return yield(l)
			}
			for i := at; i < len(l); i++ {
				l[at], l[i] = l[i], l[at]
				on := from(at + 1)
				l[at], l[i] = l[i], l[at]
				if !on {
					return false
				}
			}
			return true
		}
		from(0)
	}
}

// The chapter's example.
func TestExample(t *testing.T) {
	x := table.New[int, string]()
	if x.Put(3, "c") || x.Put(1, "a") {
		t.Error("Put: true")
	}
	if k, v, ok := x.Least(); k != 1 || v != "a" || !ok {
		t.Errorf("Least: %d, %q, %v", k, v, ok)
	}
	has(t, "in the end", x, two[int, string]{1, "a"}, two[int, string]{3, "c"})
}

// none asks that a new table is empty, and no nil.
func none[K cmp.Ordered, V comparable](t *testing.T, keys ...K) {
	t.Helper()
	x := table.New[K, V]()
	if x == nil {
		t.Fatal("New: nil")
	}
	if x.All() == nil {
		t.Fatal("All: nil")
	}
	has(t, "new", x)
	lacks(t, "new", x, keys...)
	has(t, "asked", x)
}

// P5.1, P5.2: an empty table, of keys and things of many types.
func TestNew(t *testing.T) {
	none[int, int](t, 0, 1, -1, math.MinInt, math.MaxInt)
	none[uint8, string](t, 0, 1, 255)
	none[uint64, *int](t, 0, math.MaxUint64)
	none[string, error](t, "", "a", "\x00")
	none[float64, any](t, 0, math.Copysign(0, -1), 1, math.Inf(1), math.Inf(-1))
	none[int8, struct{}](t, 0, -128, 127)
	none[uintptr, [3]int](t, 0, 7)
}

// P5.1: whether there was something; what is put in its place is kept, what was isn't.
func TestPut(t *testing.T) {
	x := table.New[string, int]()
	put(t, x, "b", 1, false)
	has(t, "one", x, two[string, int]{"b", 1})
	put(t, x, "b", 2, true)
	has(t, "in its place", x, two[string, int]{"b", 2})
	put(t, x, "b", 2, true)
	has(t, "the same in its place", x, two[string, int]{"b", 2})
	put(t, x, "a", 3, false)
	put(t, x, "c", 4, false)
	lacks(t, "three", x, "", "aa", "bb", "A", "d", "a\x00")
	has(t, "three", x, two[string, int]{"a", 3}, two[string, int]{"b", 2}, two[string, int]{"c", 4})
	put(t, x, "c", 5, true)
	put(t, x, "a", 6, true)
	put(t, x, "b", 7, true)
	has(t, "all in their place", x, two[string, int]{"a", 6}, two[string, int]{"b", 7}, two[string, int]{"c", 5})
	drop(t, x, "b")
	put(t, x, "b", 8, false)
	put(t, x, "b", 9, true)
	has(t, "dropped and put", x, two[string, int]{"a", 6}, two[string, int]{"b", 9}, two[string, int]{"c", 5})
}

// P5.1: a zero value is a thing like another one, and a zero key a key like another one.
func TestZeroValuesAreKept(t *testing.T) {
	n := table.New[int, int]()
	put(t, n, 0, 0, false)
	has(t, "zero", n, two[int, int]{0, 0})
	put(t, n, 0, 0, true)
	put(t, n, 1, 0, false)
	put(t, n, -1, 0, false)
	has(t, "zeros", n, two[int, int]{-1, 0}, two[int, int]{0, 0}, two[int, int]{1, 0})
	put(t, n, 0, 7, true)
	put(t, n, 0, 0, true)
	drop(t, n, 0)
	lacks(t, "dropped", n, 0)
	has(t, "dropped", n, two[int, int]{-1, 0}, two[int, int]{1, 0})

	p := table.New[string, *int]()
	put(t, p, "", nil, false)
	put(t, p, "", nil, true)
	has(t, "nil", p, two[string, *int]{"", nil})
	drop(t, p, "")
	has(t, "nil dropped", p)

	z := table.New[int, struct{}]()
	put(t, z, 5, struct{}{}, false)
	put(t, z, 5, struct{}{}, true)
	has(t, "nothing", z, two[int, struct{}]{5, struct{}{}})
}

// P5.1: each one may be put in its place, gotten and dropped, wherever it stands; what lies between isn't there.
func TestEachKey(t *testing.T) {
	for many := range 40 {
		var keys, odd []int
		for n := range many {
			keys = append(keys, 2*n)
			odd = append(odd, 2*n+1)
		}
		for at, k := range keys {
			x := filled(t, keys...)
			want := tens(keys...)
			put(t, x, k, -5, true)
			want[at].v = -5
			has(t, "in its place", x, want...)
			lacks(t, "between", x, append(odd, -1, -2, 2*many+1, math.MinInt, math.MaxInt)...)
			drop(t, x, k)
			lacks(t, "dropped", x, k)
			has(t, "dropped", x, slices.Delete(want, at, at+1)...)
			put(t, x, k, 10*k, false)
			has(t, "put again", x, tens(keys...)...)
		}
	}
}

// P5.1, P5.3: whatever order they come in, and go in, what is there is there, and is told by rising keys.
func TestComeAndGoInEveryOrder(t *testing.T) {
	for many := range 6 {
		keys := below(many)
		for come := range orders(keys) {
			for gone := range orders(keys) {
				x := filled(t, come...)
				left := slices.Clone(keys)
				for _, k := range gone {
					drop(t, x, k)
					left = slices.DeleteFunc(left, func(n int) bool { return n == k })
					if got := listed(x.All()); !slices.Equal(got, tens(left...)) || x.Len() != len(left) {
						t.Fatalf("came as %v, went as %v up to %d: %v, Len %d", come, gone, k, got, x.Len())
					}
				}
			}
		}
	}
}

// P5.3: in whatever order they come, all are told in one order, the last of what was put under each.
func TestOrders(t *testing.T) {
	for many := range 9 {
		keys := below(many)
		for come := range orders(keys) {
			x := filled(t, come...)
			if got := listed(x.All()); !slices.Equal(got, tens(keys...)) {
				t.Fatalf("came as %v: %v", come, got)
			}
			if k, v, ok := x.Least(); k != 0 || v != 0 || ok != (many > 0) {
				t.Fatalf("came as %v: Least: %d, %d, %v", come, k, v, ok)
			}
		}
	}
}

// rises asks that keys, which are handed in as they rise, are told so, from several orders.
func rises[K cmp.Ordered](t *testing.T, keys ...K) {
	t.Helper()
	var want []two[K, int]
	for n, k := range keys {
		want = append(want, two[K, int]{k, n})
	}
	for step := 1; step < 2*len(keys); step++ {
		x := table.New[K, int]()
		for n := range len(keys) {
			for at := n % step; at < len(keys); at += step {
				_, had := x.Get(keys[at])
				put(t, x, keys[at], at, had)
			}
		}
		has(t, "rising", x, want...)
		y := table.New[K, int]()
		for at := len(keys) - 1; at >= 0; at-- {
			put(t, y, keys[at], at, false)
		}
		has(t, "falling", y, want...)
		for at, k := range keys {
			drop(t, y, k)
			has(t, "dropped the least", y, want[at+1:]...)
		}
	}
}

type (
	name   string
	number int16
)

// P5.2: keys of each kind rise as their kind does.
func TestKindsOfKeys(t *testing.T) {
	rises(t, math.MinInt, math.MinInt+1, -1<<32, -1<<31, -1, 0, 1, 1<<31, 1<<32, math.MaxInt-1, math.MaxInt)
	rises[int8](t, -128, -127, -1, 0, 1, 126, 127)
	rises[int64](t, math.MinInt64, -1, 0, math.MaxInt64)
	rises[uint8](t, 0, 1, 127, 128, 254, 255)
	rises[uint](t, 0, 1, math.MaxInt, math.MaxInt+1, math.MaxUint)
	rises[uint64](t, 0, 1, 1<<53, 1<<53+1, 1<<63-1, 1<<63, 1<<63+1, math.MaxUint64)
	rises[uintptr](t, 0, 1, 1<<63, math.MaxUint64)
	rises(t, "", "\x00", "\x00\x00", "\x00a", "A", "B", "a", "a\x00", "aa", "ab", "b", "ba", "z", "\xc3", "é", "\xc3\xff", "世", "\xff", "\xff\x00", "\xff\xff")
	rises[name](t, "", "10", "9", "a", "b")
	rises[number](t, math.MinInt16, -1, 0, 1, math.MaxInt16)
	rises(t, math.Inf(-1), -math.MaxFloat64, -1e300, -1.5, -1, -math.SmallestNonzeroFloat64, 0, math.SmallestNonzeroFloat64, 1, math.Nextafter(1, 2), 1e300, math.MaxFloat64, math.Inf(1))
	rises[float32](t, float32(math.Inf(-1)), -math.MaxFloat32, -1, 0, math.SmallestNonzeroFloat32, 1, math.MaxFloat32, float32(math.Inf(1)))
	rises(t, strings.Repeat("a", 1000), strings.Repeat("a", 1000)+"\x00", strings.Repeat("a", 1001), "b")
}

// zeroIs asks which zero stands in a table, under which of both it is gotten.
func zeroIs(t *testing.T, what string, x *table.Table[float64, int], negative bool, want int) {
	t.Helper()
	found := false
	for k, v := range x.All() {
		if k == 0 {
			if math.Signbit(k) != negative || v != want || found {
				t.Errorf("%s: All: %v, %d, want one, negative: %v, %d", what, k, v, negative, want)
			}
			found = true
		}
	}
	if !found {
		t.Errorf("%s: All: no zero", what)
	}
	if k, _, _ := x.Least(); k == 0 && math.Signbit(k) != negative {
		t.Errorf("%s: Least: %v", what, k)
	}
	for _, k := range []float64{0, math.Copysign(0, -1)} {
		if v, ok := x.Get(k); v != want || !ok {
			t.Errorf("%s: Get(%v): %d, %v, want %d", what, k, v, ok, want)
		}
	}
}

// P5.1: of two keys that are equal, as 0 and -0, the one that stands there stays, and has the new thing, whatever stands beside it.
func TestEqualKeyStays(t *testing.T) {
	plus, minus := 0.0, math.Copysign(0, -1)
	others := [][]float64{nil, {1}, {-1}, {-1, 1}, {1, 2, 3}, {-3, -2, -1}, {3, 2, 1, -1, -2, -3}, {-9, 9, -8, 8, -7, 7, -6, 6}}
	for _, first := range []float64{plus, minus} {
		negative := math.Signbit(first)
		for _, beside := range others {
			x := table.New[float64, int]()
			put(t, x, first, 1, false)
			zeroIs(t, "put", x, negative, 1)
			put(t, x, -first, 2, true)
			zeroIs(t, "the other one put", x, negative, 2)
			for _, k := range beside {
				put(t, x, k, 5, false)
				put(t, x, -first, 3, true)
				zeroIs(t, "others put", x, negative, 3)
			}
			put(t, x, first, 4, true)
			zeroIs(t, "put in its own place", x, negative, 4)
			if x.Len() != len(beside)+1 {
				t.Errorf("Len: %d, want %d", x.Len(), len(beside)+1)
			}
			for _, k := range beside {
				drop(t, x, k)
				zeroIs(t, "others dropped", x, negative, 4)
			}
			drop(t, x, -first)
			has(t, "dropped by the other one", x)
			put(t, x, -first, 6, false)
			zeroIs(t, "the other one put anew", x, !negative, 6)
		}
	}
}

// P5.1: equal texts are one key, whatever memory they lie in.
func TestEqualTextsAreOneKey(t *testing.T) {
	x := table.New[string, int]()
	b := []byte("key")
	put(t, x, string(b), 1, false)
	put(t, x, strings.Clone("key"), 2, true)
	b[0] = 'K'
	has(t, "texts", x, two[string, int]{"key", 2})
	lacks(t, "texts", x, string(b))
	drop(t, x, "ke"+string(b[2:]))
	has(t, "dropped", x)
}

// P5.1: nothing is dropped that isn't there, and nothing twice.
func TestDrop(t *testing.T) {
	x := filled(t, 5, 3, 8, 1, 4)
	lacks(t, "beside", x, 0, 2, 6, 7, 9, -5, math.MinInt, math.MaxInt)
	has(t, "beside", x, tens(1, 3, 4, 5, 8)...)
	for _, step := range []struct {
		k    int
		left []int
	}{{3, []int{1, 4, 5, 8}}, {8, []int{1, 4, 5}}, {5, []int{1, 4}}, {1, []int{4}}, {4, nil}} {
		drop(t, x, step.k)
		lacks(t, "dropped", x, step.k, 3)
		has(t, "dropped", x, tens(step.left...)...)
	}
	lacks(t, "empty", x, 1, 3, 4, 5, 8, 0)
	put(t, x, 3, 30, false)
	has(t, "put again", x, tens(3)...)
}

// P5.2: it may be left at any time, and ranged over again.
func TestAllIsLeftAndRangedOverAgain(t *testing.T) {
	for many := 1; many < 34; many++ {
		keys := below(many)
		x := filled(t, keys...)
		all := x.All()
		for left := 1; left <= many; left++ {
			for range 2 {
				if got := ahead(all, left); !slices.Equal(got, tens(keys[:left]...)) {
					t.Errorf("left behind %d of %d: %v", left, many, got)
				}
			}
			if got := listed(all); !slices.Equal(got, tens(keys...)) {
				t.Errorf("left behind %d of %d, and ranged over again: %v", left, many, got)
			}
		}
		has(t, "ranged over", x, tens(keys...)...)
	}
}

// P5.2: who left it is told nothing more, though it be called by hand.
func TestAllTellsNothingWhenLeft(t *testing.T) {
	x := filled(t, below(20)...)
	for stop := range 20 {
		calls := 0
		x.All()(func(k, v int) bool {
			calls++
			return k != stop
		})
		if calls != stop+1 {
			t.Errorf("left with %d: %d told", stop, calls)
		}
	}
}

// P5.2: a panic of who ranges goes through, and the table is as it was.
func TestPanicAmidAll(t *testing.T) {
	x := filled(t, 1, 2, 3)
	all := x.All()
	func() {
		defer func() {
			if got := recover(); got != "enough" {
				t.Errorf("recovered %v", got)
			}
		}()
		for k := range all {
			if k == 2 {
				panic("enough")
			}
		}
		t.Error("no panic")
	}()
	if got := listed(all); !slices.Equal(got, tens(1, 2, 3)) {
		t.Errorf("ranged over again: %v", got)
	}
	has(t, "behind a panic", x, tens(1, 2, 3)...)
}

// P5.2: all are told as they are when ranging begins, not when the iterator was answered.
func TestAllTellsWhatIsThereWhenItBegins(t *testing.T) {
	x := table.New[int, int]()
	all := x.All()
	told := func(what string, want ...two[int, int]) {
		t.Helper()
		if got := listed(all); !slices.Equal(got, want) {
			t.Errorf("%s: %v, want %v", what, got, want)
		}
	}
	told("empty")
	x.Put(2, 20)
	told("put 2", tens(2)...)
	x.Put(1, 10)
	x.Put(3, 30)
	told("put 1, 3", tens(1, 2, 3)...)
	x.Put(2, 5)
	told("put 2 anew", two[int, int]{1, 10}, two[int, int]{2, 5}, two[int, int]{3, 30})
	x.Drop(2)
	told("dropped 2", tens(1, 3)...)
	x.Drop(1)
	x.Drop(3)
	told("dropped all")
	x.Put(4, 40)
	told("put 4", tens(4)...)
}

// P5.2: whatever is done amid it, wherever it has come to, told is what was there when it began; the table itself is changed at once.
func TestChangesAmidAll(t *testing.T) {
	const many = 12
	keys := below(many)
	for at := range many {
		for k := -1; k <= many; k++ {
			x := filled(t, keys...)
			var got []two[int, int]
			for key, v := range x.All() {
				got = append(got, two[int, int]{key, v})
				if key != at {
					continue
				}
				there := k >= 0 && k < many
				put(t, x, k, -7, there)
				if v, ok := x.Get(k); v != -7 || !ok {
					t.Errorf("put %d amid it: Get: %d, %v", k, v, ok)
				}
				drop(t, x, k)
				lacks(t, "dropped amid it", x, k)
				put(t, x, k+100, -8, false)
			}
			if !slices.Equal(got, tens(keys...)) {
				t.Errorf("%d changed when %d was told: %v", k, at, got)
			}
			want := slices.DeleteFunc(tens(keys...), func(w two[int, int]) bool { return w.k == k })
			has(t, "behind it", x, append(want, two[int, int]{k + 100, -8})...)
		}
	}
}

// P5.2: each may be dropped, or put anew, as it is told, and those behind it too.
func TestAllChangedAmidAll(t *testing.T) {
	for many := range 30 {
		keys := below(many)
		x := filled(t, keys...)
		var got []two[int, int]
		for k, v := range x.All() {
			got = append(got, two[int, int]{k, v})
			drop(t, x, k)
		}
		if !slices.Equal(got, tens(keys...)) {
			t.Errorf("each dropped: %v", got)
		}
		has(t, "each dropped", x)

		x = filled(t, keys...)
		got = nil
		for k, v := range x.All() {
			got = append(got, two[int, int]{k, v})
			for n := range many {
				x.Put(n, -k)
			}
			x.Put(-k-1, 0)
			x.Put(many+k, 0)
		}
		if !slices.Equal(got, tens(keys...)) {
			t.Errorf("each put anew: %v", got)
		}
		if x.Len() != 3*many {
			t.Errorf("each put anew: Len: %d, want %d", x.Len(), 3*many)
		}

		x = filled(t, keys...)
		got = nil
		for k, v := range x.All() {
			got = append(got, two[int, int]{k, v})
			for n := many - 1; n >= 0; n-- {
				x.Drop(n)
			}
		}
		if !slices.Equal(got, tens(keys...)) {
			t.Errorf("all dropped: %v", got)
		}
		has(t, "all dropped", x)
	}
}

// P5.2: of several that are ranged over, one within another, each tells what was there when it began.
func TestAllWithinAll(t *testing.T) {
	x := filled(t, 1, 2, 3)
	all := x.All()
	var got []int
outer:
	for a := range all {
		x.Put(10+a, 0)
		for b := range all {
			got = append(got, 100*a+b)
			if b == 11 && a == 2 {
				continue outer
			}
			if a == 3 && b == 2 {
				break outer
			}
			if b == 3 {
				x.Drop(3)
			}
		}
	}
	if want := []int{101, 102, 103, 111, 201, 202, 211, 301, 302}; !slices.Equal(got, want) {
		t.Errorf("%v, want %v", got, want)
	}
	has(t, "ranged over", x, two[int, int]{1, 10}, two[int, int]{2, 20}, two[int, int]{11, 0}, two[int, int]{12, 0}, two[int, int]{13, 0})
}

// P5.2: the least one is the first of all, while those below it come, and while it goes.
func TestLeast(t *testing.T) {
	x := table.New[int, string]()
	least := func(what string, k int, v string, ok bool) {
		t.Helper()
		for range 2 {
			if gotK, gotV, gotOK := x.Least(); gotK != k || gotV != v || gotOK != ok {
				t.Errorf("%s: %d, %q, %v, want %d, %q, %v", what, gotK, gotV, gotOK, k, v, ok)
			}
		}
	}
	least("empty", 0, "", false)
	put(t, x, 5, "five", false)
	least("one", 5, "five", true)
	put(t, x, 9, "nine", false)
	least("a higher one", 5, "five", true)
	put(t, x, -2, "less", false)
	least("a lower one", -2, "less", true)
	put(t, x, -2, "", true)
	least("an empty one", -2, "", true)
	put(t, x, math.MinInt, "lowest", false)
	least("the lowest", math.MinInt, "lowest", true)
	drop(t, x, -2)
	least("another one dropped", math.MinInt, "lowest", true)
	drop(t, x, math.MinInt)
	least("the lowest dropped", 5, "five", true)
	drop(t, x, 5)
	least("dropped", 9, "nine", true)
	drop(t, x, 9)
	least("all dropped", 0, "", false)
}

// R5: what is kept is kept, and told, as it is: a pointer is that pointer, a list is that list.
func TestThingsAreKeptAsTheyAre(t *testing.T) {
	one, other := 1, 1
	p := table.New[int, *int]()
	put(t, p, 1, &one, false)
	put(t, p, 2, &other, false)
	one = 7
	has(t, "pointers", p, two[int, *int]{1, &one}, two[int, *int]{2, &other})

	l := table.New[string, []int]()
	list := []int{1, 2, 3}
	put(t, l, "a", list, false)
	put(t, l, "b", nil, false)
	list[1] = 9
	if v, ok := l.Get("a"); !ok || !slices.Equal(v, []int{1, 9, 3}) || &v[0] != &list[0] {
		t.Errorf("Get: a list by itself: %v", v)
	}
	if v, ok := l.Get("b"); !ok || v != nil {
		t.Errorf("Get: %v, %v, want a nil list", v, ok)
	}
	if _, v, ok := l.Least(); !ok || &v[0] != &list[0] {
		t.Errorf("Least: a list by itself: %v", v)
	}
	for k, v := range l.All() {
		if k == "a" && &v[0] != &list[0] {
			t.Errorf("All: a list by itself: %v", v)
		}
	}

	f := table.New[int, func() int]()
	put(t, f, 1, func() int { return 41 }, false)
	if v, ok := f.Get(1); !ok || v() != 41 {
		t.Error("a function isn't what it was")
	}
	if v, ok := f.Get(2); ok || v != nil {
		t.Error("a function where none is kept")
	}
}

// R5: what is answered is memory of its own: a thing that is a value is told as a copy.
func TestValuesAreCopies(t *testing.T) {
	x := table.New[int, [2]int]()
	v := [2]int{1, 2}
	put(t, x, 1, v, false)
	v[0] = 9
	got, _ := x.Get(1)
	got[1] = 9
	_, least, _ := x.Least()
	least[1] = 9
	for _, w := range x.All() {
		w[1] = 9
	}
	has(t, "changed what was told", x, two[int, [2]int]{1, [2]int{1, 2}})
}

// R6: one table has nothing to do with another one.
func TestTablesByThemselves(t *testing.T) {
	a, b := filled(t, 1, 2, 3), filled(t, 2, 3, 4)
	drop(t, a, 2)
	put(t, b, 3, 5, true)
	put(t, a, 7, 70, false)
	has(t, "the first table", a, tens(1, 3, 7)...)
	has(t, "the other table", b, two[int, int]{2, 20}, two[int, int]{3, 5}, two[int, int]{4, 40})
}

// model is what a table should be: the things, and how many there are.
type model map[int]int

// listed is all that is there, by rising keys.
func (m model) listed() []two[int, int] {
	var l []two[int, int]
	for k, v := range m {
		l = append(l, two[int, int]{k, v})
	}
	slices.SortFunc(l, func(a, b two[int, int]) int { return cmp.Compare(a.k, b.k) })
	return l
}

// same asks that a table has what its model has.
func (m model) same(t *testing.T, what string, x *table.Table[int, int]) {
	t.Helper()
	want := m.listed()
	if got := listed(x.All()); !slices.Equal(got, want) || x.Len() != len(want) {
		t.Fatalf("%s: %v, Len %d, want %v", what, got, x.Len(), want)
	}
}

// P5.1 to P5.3: long runs, that lean to putting and to dropping by turns, of few keys and of many.
func TestLongRuns(t *testing.T) {
	for _, keys := range []int{1, 2, 3, 7, 20, 100, 1000, 50000} {
		x, m := table.New[int, int](), model{}
		seed := uint64(keys)
		next := func(n int) int {
			seed = seed*6364136223846793005 + 1442695040888963407
			return int(seed>>33) % n
		}
		for n := range 30000 {
			k := next(keys) - keys/2
			_, had := m[k]
			if v, ok := x.Get(k); v != m[k] || ok != had {
				t.Fatalf("%d keys, call %d: Get(%d): %d, %v, want %d", keys, n, k, v, ok, m[k])
			}
			if next(6) < 2+n/(2*keys+10)%2*2 {
				if x.Drop(k) != had {
					t.Fatalf("%d keys, call %d: Drop(%d): %v", keys, n, k, !had)
				}
				delete(m, k)
			} else {
				if x.Put(k, n) != had {
					t.Fatalf("%d keys, call %d: Put(%d): %v", keys, n, k, !had)
				}
				m[k] = n
			}
			if n%500 == 0 {
				m.same(t, "long run", x)
			}
		}
		m.same(t, "long run", x)
	}
}

// P5.2: what is ranged over amid a long run stays what it was when it began, though the table be another one by then.
func TestLongRunsAmidAll(t *testing.T) {
	x, m := table.New[int, int](), model{}
	for n := range 300 {
		x.Put(n*7%300, n)
		m[n*7%300] = n
	}
	want := m.listed()
	var got []two[int, int]
	for k, v := range x.All() {
		got = append(got, two[int, int]{k, v})
		for n := range 40 {
			key := (k*31 + n*17) % 600
			if n%2 == 0 {
				x.Put(key, -n)
				m[key] = -n
			} else {
				x.Drop(key)
				delete(m, key)
			}
		}
		m.same(t, "amid it", x)
	}
	if !slices.Equal(got, want) {
		t.Errorf("%v, want %v", got, want)
	}
}

// P5.1 to P5.3: many keys, that rise, fall, come from both sides, or lie about, are no more trouble than others; nor is asking for the least one, or leaving it at once, where there are many.
func TestManyKeys(t *testing.T) {
	const many = 1 << 16
	for what, key := range map[string]func(int) int{
		"rising":     func(n int) int { return n },
		"falling":    func(n int) int { return many - 1 - n },
		"both sides": func(n int) int { return n%2*(many-1) + n/2 - n%2*(n/2*2) },
		"about":      func(n int) int { return int(bits.Reverse32(uint32(n)) >> 16) },
	} {
		x := table.New[int, int]()
		for n := range many {
			put(t, x, key(n), n, false)
		}
		for n := range many {
			if v, ok := x.Get(key(n)); v != n || !ok {
				t.Fatalf("%s: Get(%d): %d, %v, want %d", what, key(n), v, ok, n)
			}
		}
		at := 0
		for k := range x.All() {
			if k != at {
				t.Fatalf("%s: All: %d, want %d", what, k, at)
			}
			at++
		}
		for n := range many {
			for k := range x.All() {
				if k != n {
					t.Fatalf("%s: All: first %d, want %d", what, k, n)
				}
				break
			}
			if k, _, ok := x.Least(); k != n || !ok || x.Len() != many-n {
				t.Fatalf("%s: Least: %d, %v, want %d; Len %d", what, k, ok, n, x.Len())
			}
			drop(t, x, n)
		}
		has(t, what, x)
	}
}

// What was dropped, or had another thing put in its place, isn't kept by the table, which would hold in memory whatever it points to.
func TestWhatHasGoneIsNotKept(t *testing.T) {
	type thing struct {
		words [100]int
		self  *thing
	}
	x := table.New[int, *thing]()
	var gone []weak.Pointer[thing]
	for n := range 100 {
		for range 2 {
			v := new(thing)
			gone = append(gone, weak.Make(v))
			x.Put(n*37%100, v)
		}
	}
	for n := range 100 {
		if n%3 == 0 {
			x.Put(n, nil)
		} else {
			x.Drop(n)
		}
	}
	kept := func() int {
		many := 0
		for _, w := range gone {
			if w.Value() != nil {
				many++
			}
		}
		return many
	}
	for range 20 {
		runtime.GC()
		if kept() == 0 {
			break
		}
	}
	if many := kept(); many > 0 {
		t.Errorf("%d things that have gone are kept", many)
	}
	if x.Len() != 34 {
		t.Errorf("Len: %d, want 34", x.Len())
	}
}
