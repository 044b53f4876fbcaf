package field_test

import (
	"math"
	"slices"
	"testing"

	"coachhouse/api"
	"coachhouse/field"
)

// words are such that every bit, the two highest ones too, stands and doesn't stand in some of them.
func words() []int {
	l := []int{0, 1, -1, 80, math.MaxInt, math.MinInt, 0x5555555555555555, ^0x5555555555555555, 1 << 61, 1 << 62, -1 << 61, -113}
	x := uint64(1)
	for range 8 {
		x = x*6364136223846793005 + 1442695040888963407
		l = append(l, int(x))
	}
	return l
}

func bit(w, i int) int { return int(uint64(w) >> i & 1) }

// allFields are all that are right.
func allFields() []api.Field {
	var l []api.Field
	for at := range 62 {
		for width := 1; width <= 62-at; width++ {
			l = append(l, api.Field{At: at, Width: width})
		}
	}
	return l
}

// someFields are those around the edges and in the middle.
func someFields() []api.Field {
	var l []api.Field
	for _, at := range []int{0, 1, 2, 3, 7, 30, 31, 32, 33, 59, 60, 61} {
		for _, width := range []int{1, 2, 3, 4, 29, 30, 31, 32, 58, 59, 60, 61, 62} {
			if at+width <= 62 {
				l = append(l, api.Field{At: at, Width: width})
			}
		}
	}
	return l
}

// wrongFields are none that are right.
func wrongFields() []api.Field {
	return []api.Field{
		{At: 0, Width: 0}, {At: 5, Width: 0}, {At: 62, Width: 0}, {At: 0, Width: -1}, {At: 5, Width: -4}, {At: 0, Width: math.MinInt},
		{At: -1, Width: 1}, {At: -1, Width: 62}, {At: -1, Width: 63}, {At: -3, Width: 10}, {At: math.MinInt, Width: 1}, {At: math.MinInt, Width: math.MinInt}, {At: math.MinInt, Width: math.MaxInt},
		{At: 0, Width: 63}, {At: 0, Width: 64}, {At: 1, Width: 62}, {At: 61, Width: 2}, {At: 62, Width: 1}, {At: 63, Width: 1}, {At: 64, Width: 1},
		{At: 0, Width: math.MaxInt}, {At: 1, Width: math.MaxInt}, {At: math.MaxInt, Width: 1}, {At: math.MaxInt, Width: math.MaxInt}, {At: 1 << 62, Width: 1 << 62}, {At: 1 << 61, Width: 1 << 62},
	}
}

func TestBits(t *testing.T) {
	if field.Bits != 62 {
		t.Error(field.Bits)
	}
}

// P1.1
func TestRight(t *testing.T) {
	for at := -70; at <= 70; at++ {
		for width := -70; width <= 140; width++ {
			want := at >= 0 && width >= 1 && at+width <= 62
			if got := field.Right(api.Field{At: at, Width: width}); got != want {
				t.Errorf("Right({%d, %d}): %v", at, width, got)
			}
		}
	}
	for _, f := range wrongFields() {
		if field.Right(f) {
			t.Errorf("Right(%v): true", f)
		}
	}
}

// P1.1
func TestMax(t *testing.T) {
	for _, f := range allFields() {
		want := 0
		for range f.Width {
			want = 2*want + 1
		}
		if got := field.Max(f); got != want {
			t.Errorf("Max(%v): %d, not %d", f, got, want)
		}
	}
	if got := field.Max(api.Field{At: 0, Width: 62}); got != 4611686018427387903 {
		t.Error(got)
	}
	if got := field.Max(api.Field{At: 61, Width: 1}); got != 1 {
		t.Error(got)
	}
}

// P1.1
func TestGet(t *testing.T) {
	for _, f := range allFields() {
		for _, w := range words() {
			want := 0
			for i := range f.Width {
				want |= bit(w, f.At+i) << i
			}
			if got := field.Get(w, f); got != want {
				t.Errorf("Get(%d, %v): %d, not %d", w, f, got, want)
			}
		}
	}
}

// P1.1
func TestPut(t *testing.T) {
	for _, f := range allFields() {
		for _, w := range words() {
			for _, v := range words() {
				got := field.Put(w, f, v)
				for i := range 64 {
					want := bit(w, i)
					if i >= f.At && i < f.At+f.Width {
						want = bit(v, i-f.At)
					}
					if bit(got, i) != want {
						t.Fatalf("Put(%d, %v, %d): %d: its bit %d is wrong", w, f, v, got, i)
					}
				}
			}
		}
	}
}

// P1.1
func TestExamples(t *testing.T) {
	f := api.Field{At: 4, Width: 3}
	if got := field.Put(0, f, 5); got != 80 {
		t.Error(got)
	}
	if got := field.Get(80, f); got != 5 {
		t.Error(got)
	}
	if got := field.Get(80, api.Field{At: 5, Width: 2}); got != 2 {
		t.Error(got)
	}
	if got := field.Put(80, f, 8); got != 0 {
		t.Error(got)
	}
	if got := field.Put(-1, api.Field{At: 0, Width: 62}, 0); got != -1<<62 {
		t.Error(got)
	}
	if got := field.Put(0, api.Field{At: 61, Width: 1}, -1); got != 1<<61 {
		t.Error(got)
	}
}

// apart counts how many fields have each bit.
func apart(l []api.Field) bool {
	var many [62]int
	for _, f := range l {
		for i := range f.Width {
			many[f.At+i]++
		}
	}
	return slices.Max(many[:]) <= 1
}

// P1.2
func TestApartOfTwo(t *testing.T) {
	for _, a := range someFields() {
		for _, b := range someFields() {
			l := []api.Field{a, b}
			if got := field.Apart(l); got != apart(l) {
				t.Errorf("Apart(%v): %v", l, got)
			}
		}
	}
}

// P1.2
func TestApartOfMany(t *testing.T) {
	for i, x := range []struct {
		l    []api.Field
		want bool
	}{
		{nil, true},
		{[]api.Field{}, true},
		{[]api.Field{{At: 0, Width: 62}}, true},
		{[]api.Field{{At: 61, Width: 1}}, true},
		{[]api.Field{{At: 0, Width: 62}, {At: 61, Width: 1}}, false},
		{[]api.Field{{At: 61, Width: 1}, {At: 0, Width: 62}}, false},
		{[]api.Field{{At: 0, Width: 61}, {At: 61, Width: 1}}, true},
		{[]api.Field{{At: 4, Width: 3}, {At: 7, Width: 2}, {At: 0, Width: 4}}, true},
		{[]api.Field{{At: 4, Width: 3}, {At: 6, Width: 2}, {At: 0, Width: 4}}, false},
		{[]api.Field{{At: 4, Width: 3}, {At: 7, Width: 2}, {At: 0, Width: 5}}, false},
		{[]api.Field{{At: 7, Width: 2}, {At: 4, Width: 3}, {At: 0, Width: 5}}, false},
		{[]api.Field{{At: 4, Width: 3}, {At: 20, Width: 3}, {At: 4, Width: 3}}, false},
		{[]api.Field{{At: 0, Width: 10}, {At: 20, Width: 3}, {At: 4, Width: 1}}, false},
		{[]api.Field{{At: 4, Width: 1}, {At: 20, Width: 3}, {At: 0, Width: 10}}, false},
	} {
		if got := field.Apart(x.l); got != x.want {
			t.Errorf("%d: Apart(%v): %v", i, x.l, got)
		}
	}
}

// singles are all bits, each a field of its own, in no plain order.
func singles() []api.Field {
	var l []api.Field
	for i := range 62 {
		l = append(l, api.Field{At: i * 37 % 62, Width: 1})
	}
	return l
}

// P1.2
func TestApartOfSingles(t *testing.T) {
	if !field.Apart(singles()) {
		t.Error("bits of their own have none in common")
	}
	for i := range 62 {
		for _, l := range [][]api.Field{
			append(singles(), api.Field{At: i, Width: 1}),
			append([]api.Field{{At: i, Width: 1}}, singles()...),
		} {
			if field.Apart(l) {
				t.Errorf("bit %d is two fields'", i)
			}
		}
	}
	var many []api.Field
	for range 200 {
		many = append(many, singles()...)
	}
	if field.Apart(many) {
		t.Error("more fields than bits can't be apart")
	}
}

// P1.2
func TestApartOfWrong(t *testing.T) {
	for _, f := range wrongFields() {
		for _, l := range [][]api.Field{
			{f},
			{f, {At: 10, Width: 2}, {At: 20, Width: 2}},
			{{At: 10, Width: 2}, f, {At: 20, Width: 2}},
			{{At: 10, Width: 2}, {At: 20, Width: 2}, f},
		} {
			if field.Apart(l) {
				t.Errorf("Apart(%v): true", l)
			}
			if w, ok := field.Pack(l, make([]int, len(l))); w != 0 || ok {
				t.Errorf("Pack(%v): %d, %v", l, w, ok)
			}
			if v := field.Parts(-1, l); len(v) != 0 {
				t.Errorf("Parts(-1, %v): %v", l, v)
			}
		}
	}
}

// P1.2
func TestPack(t *testing.T) {
	three := []api.Field{{At: 8, Width: 2}, {At: 0, Width: 4}, {At: 4, Width: 4}}
	whole, last := []api.Field{{At: 0, Width: 62}}, []api.Field{{At: 61, Width: 1}}
	for i, x := range []struct {
		l  []api.Field
		v  []int
		w  int
		ok bool
	}{
		{nil, nil, 0, true},
		{[]api.Field{}, []int{}, 0, true},
		{nil, []int{0}, 0, false},
		{last, nil, 0, false},
		{three, []int{2, 15, 1}, 512 + 15 + 16, true},
		{three, []int{0, 0, 0}, 0, true},
		{three, []int{3, 15, 15}, 1023, true},
		{three, []int{4, 15, 15}, 0, false},
		{three, []int{3, 16, 15}, 0, false},
		{three, []int{3, 15, 16}, 0, false},
		{three, []int{-1, 15, 15}, 0, false},
		{three, []int{3, -1, 15}, 0, false},
		{three, []int{3, 15, -1}, 0, false},
		{three, []int{3, 15, math.MinInt}, 0, false},
		{three, []int{3, 15, math.MaxInt}, 0, false},
		{three, []int{3, 15, 1 << 32}, 0, false},
		{three, []int{3, 15}, 0, false},
		{three, []int{3, 15, 1, 0}, 0, false},
		{whole, []int{1<<62 - 1}, 1<<62 - 1, true},
		{whole, []int{1 << 62}, 0, false},
		{whole, []int{-1}, 0, false},
		{last, []int{1}, 1 << 61, true},
		{last, []int{0}, 0, true},
		{last, []int{2}, 0, false},
		{last, []int{-1}, 0, false},
		{[]api.Field{{At: 0, Width: 4}, {At: 3, Width: 1}}, []int{0, 0}, 0, false},
		{[]api.Field{{At: 0, Width: 4}, {At: 3, Width: 1}}, []int{7, 1}, 0, false},
		{[]api.Field{{At: 2, Width: 2}, {At: 2, Width: 2}}, []int{1, 1}, 0, false},
	} {
		if w, ok := field.Pack(x.l, x.v); w != x.w || ok != x.ok {
			t.Errorf("%d: Pack(%v, %v): %d, %v", i, x.l, x.v, w, ok)
		}
	}
}

// P1.2
func TestPackAtMax(t *testing.T) {
	for _, f := range allFields() {
		top := 1<<f.Width - 1
		for _, v := range []int{0, top / 2, top} {
			if w, ok := field.Pack([]api.Field{f}, []int{v}); w != v<<f.At || !ok {
				t.Errorf("Pack of %d in %v: %d, %v", v, f, w, ok)
			}
		}
		for _, v := range []int{top + 1, -1, -top - 1, math.MaxInt, math.MinInt} {
			if w, ok := field.Pack([]api.Field{f}, []int{v}); w != 0 || ok {
				t.Errorf("Pack of %d in %v: %d, %v", v, f, w, ok)
			}
		}
	}
}

// P1.2
func TestParts(t *testing.T) {
	for _, x := range []struct {
		w    int
		l    []api.Field
		want []int
	}{
		{-1, nil, nil},
		{-1, []api.Field{}, nil},
		{80, []api.Field{{At: 4, Width: 3}, {At: 5, Width: 2}, {At: 4, Width: 3}, {At: 0, Width: 4}}, []int{5, 2, 5, 0}},
		{-1, []api.Field{{At: 0, Width: 62}, {At: 61, Width: 1}, {At: 60, Width: 2}}, []int{1<<62 - 1, 1, 3}},
		{-1 << 62, []api.Field{{At: 0, Width: 62}, {At: 61, Width: 1}}, []int{0, 0}},
		{1 << 61, []api.Field{{At: 61, Width: 1}, {At: 0, Width: 61}}, []int{1, 0}},
	} {
		if got := field.Parts(x.w, x.l); !slices.Equal(got, x.want) {
			t.Errorf("Parts(%d, %v): %v", x.w, x.l, got)
		}
	}
}

// P1.2
func TestPartsOfAll(t *testing.T) {
	l := allFields()
	for _, w := range words() {
		v := field.Parts(w, l)
		if len(v) != len(l) {
			t.Fatalf("%d numbers of %d fields", len(v), len(l))
		}
		for i, f := range l {
			if v[i] != field.Get(w, f) {
				t.Fatalf("Parts(%d, ..): %d of %v", w, v[i], f)
			}
		}
	}
}

// P1.3
func TestPutIsGot(t *testing.T) {
	for _, f := range someFields() {
		for _, w := range words() {
			for _, v := range words() {
				v &= 1<<f.Width - 1
				if got := field.Get(field.Put(w, f, v), f); got != v {
					t.Fatalf("%d put in %v of %d: %d", v, f, w, got)
				}
			}
		}
	}
}

// P1.3
func TestPutLeavesOthers(t *testing.T) {
	for _, f := range someFields() {
		for _, g := range someFields() {
			if !apart([]api.Field{f, g}) {
				continue
			}
			for _, w := range words() {
				if field.Get(field.Put(w, f, ^w), g) != field.Get(w, g) {
					t.Fatalf("put in %v of %d: %v is another one", f, w, g)
				}
			}
		}
	}
}

// P1.3
func TestPackIsParted(t *testing.T) {
	l := []api.Field{{At: 50, Width: 12}, {At: 0, Width: 1}, {At: 1, Width: 30}, {At: 40, Width: 10}}
	for _, w := range words() {
		v := []int{w & 4095, w >> 13 & 1, w >> 20 & (1<<30 - 1), w >> 5 & 1023}
		p, ok := field.Pack(l, v)
		if !ok || p>>62 != 0 || p>>31&511 != 0 {
			t.Errorf("Pack(%v, %v): %d, %v", l, v, p, ok)
		}
		if got := field.Parts(p, l); !slices.Equal(got, v) {
			t.Errorf("%v packed, and parted: %v", v, got)
		}
	}
}

// R5, R6
func TestNothingElseChanges(t *testing.T) {
	l := []api.Field{{At: 8, Width: 2}, {At: 0, Width: 4}, {At: 4, Width: 4}}
	v := []int{2, 15, 1}
	l0, v0 := slices.Clone(l), slices.Clone(v)
	for range 2 {
		w, ok := field.Pack(l, v)
		if w != 543 || !ok || !field.Apart(l) {
			t.Error(w, ok)
		}
		p := field.Parts(w, l)
		if !slices.Equal(p, v0) || !slices.Equal(l, l0) || !slices.Equal(v, v0) {
			t.Error(p, l, v)
		}
		clear(p)
	}
}
