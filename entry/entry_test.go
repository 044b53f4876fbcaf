package entry_test

import (
	"bytes"
	"math"
	"math/rand/v2"
	"slices"
	"testing"

	"coachhouse/api"
	"coachhouse/entry"
)

// size is how many bytes an entry has, most how many entries there may be.
const (
	size = 12
	most = 1000
)

// whole has another number in each place, and all that may be so is so.
var whole = api.Entry{
	Kind: api.Breakage,
	Who:  0x21,
	Ask:  api.Ask{Op: api.Stats, Wait: true, Force: true, Slot: 0x32, Stream: 0x43, Gen: 0x5465, Deadline: 0x7687},
	N:    0x98a9,
	Good: true,
}

// wholeBytes are its bytes.
var wholeBytes = []byte{4, 0x21, 7, 7, 0x32, 0x43, 0x65, 0x54, 0x87, 0x76, 0xa9, 0x98}

// A number is one of an entry's: its name, the most that it may be, and where it is.
type number struct {
	name string
	most int
	of   func(x *api.Entry) *int
}

// numbers are an entry's.
func numbers() []number {
	return []number{
		{"Kind", 4, func(x *api.Entry) *int { return &x.Kind }},
		{"Who", 255, func(x *api.Entry) *int { return &x.Who }},
		{"Op", 7, func(x *api.Entry) *int { return &x.Ask.Op }},
		{"Slot", 255, func(x *api.Entry) *int { return &x.Ask.Slot }},
		{"Stream", 255, func(x *api.Entry) *int { return &x.Ask.Stream }},
		{"Gen", 65535, func(x *api.Entry) *int { return &x.Ask.Gen }},
		{"Deadline", 65535, func(x *api.Entry) *int { return &x.Ask.Deadline }},
		{"N", 65535, func(x *api.Entry) *int { return &x.N }},
	}
}

// edges are numbers at the edges of what a number may be, and of what its bytes hold.
func edges(n number) []int {
	l := []int{math.MinInt, math.MinInt + 1, -1 << 32, -65536, -65535, -256, -255, -2, -1, 0, 1, 3, 4, 5, 7, 8, 127, 128, 254, 255, 256, 257, 511, 512, 32767, 32768, 65534, 65535, 65536, 65537, 1 << 24, 1 << 32, 1<<32 + 1, 1 << 62, math.MaxInt - 1, math.MaxInt}
	return append(l, n.most-1, n.most, n.most+1, n.most+256, n.most+65536)
}

// wrong are entries of which one number can't be.
func wrong() []api.Entry {
	var l []api.Entry
	for _, base := range []api.Entry{{}, whole} {
		for _, n := range numbers() {
			for _, v := range edges(n) {
				if v < 0 || v > n.most {
					x := base
					*n.of(&x) = v
					l = append(l, x)
				}
			}
		}
	}
	return l
}

// some is any right entry.
func some(r *rand.Rand) api.Entry {
	var x api.Entry
	for _, n := range numbers() {
		*n.of(&x) = r.IntN(n.most + 1)
	}
	x.Ask.Wait, x.Ask.Force, x.Good = r.IntN(2) == 0, r.IntN(2) == 0, r.IntN(2) == 0
	return x
}

// written is a right entry's bytes, as the chapter has them.
func written(x api.Entry) []byte {
	sum := 0
	if x.Ask.Wait {
		sum += 1
	}
	if x.Ask.Force {
		sum += 2
	}
	if x.Good {
		sum += 4
	}
	l := []int{x.Kind, x.Who, x.Ask.Op, sum, x.Ask.Slot, x.Ask.Stream}
	for _, n := range []int{x.Ask.Gen, x.Ask.Deadline, x.N} {
		l = append(l, n%256, n/256)
	}
	var b []byte
	for _, n := range l {
		b = append(b, byte(n))
	}
	return b
}

// encodes holds Encode against the bytes that it ought to answer.
func encodes(t *testing.T, l []api.Entry, want []byte) {
	t.Helper()
	if b, e := entry.Encode(l); e != api.OK || !bytes.Equal(b, want) {
		t.Errorf("Encode(%+v): % x, %v, want % x", l, b, e, want)
	}
}

// decodes holds Decode against the entries that it ought to answer.
func decodes(t *testing.T, b []byte, want []api.Entry) {
	t.Helper()
	if l, e := entry.Decode(b); e != api.OK || !slices.Equal(l, want) {
		t.Errorf("Decode(% x): %+v, %v, want %+v", b, l, e, want)
	}
}

// encodesNone holds Encode against the error that it ought to answer.
func encodesNone(t *testing.T, l []api.Entry, want api.Errno) {
	t.Helper()
	if b, e := entry.Encode(l); e != want || len(b) != 0 {
		t.Errorf("Encode of %d entries: % x, %v, want %v", len(l), b, e, want)
	}
}

// decodesNone holds Decode against the error that it ought to answer.
func decodesNone(t *testing.T, b []byte, want api.Errno) {
	t.Helper()
	if l, e := entry.Decode(b); e != want || len(l) != 0 {
		t.Errorf("Decode of %d bytes: %+v, %v, want %v", len(b), l, e, want)
	}
}

// TestNumbers: the numbers that the chapter gives.
func TestNumbers(t *testing.T) {
	if entry.Size != size || entry.MaxEntries != most {
		t.Errorf("%d, %d, want %d, %d", entry.Size, entry.MaxEntries, size, most)
	}
}

// TestExample: the chapter's.
func TestExample(t *testing.T) {
	l, b := []api.Entry{{Kind: api.Pick, Who: 3}}, []byte{1, 3, 0, 0, 0, 0, 0, 0, 0, 0, 0, 0}
	encodes(t, l, b)
	decodes(t, b, l)
}

// TestRight: P13.1, each number alone, at its edges and beyond them; whatever the Kind, all numbers count.
func TestRight(t *testing.T) {
	for kind := range 5 {
		for _, base := range []api.Entry{{Kind: kind}, {Kind: kind, Who: whole.Who, Ask: whole.Ask, N: whole.N, Good: true}} {
			for _, n := range numbers() {
				for _, v := range edges(n) {
					x := base
					*n.of(&x) = v
					for range 2 {
						if got, want := entry.Right(x), 0 <= v && v <= n.most; got != want {
							t.Errorf("Right(%+v), with %s %d: %t", x, n.name, v, got)
						}
					}
				}
			}
		}
	}
}

// TestRightRandom: P13.1, several wrong numbers at once.
func TestRightRandom(t *testing.T) {
	r := rand.New(rand.NewPCG(13, 1))
	for range 100000 {
		x, right := some(r), true
		for _, n := range numbers() {
			if r.IntN(8) == 0 {
				l := edges(n)
				v := l[r.IntN(len(l))]
				*n.of(&x) = v
				right = right && 0 <= v && v <= n.most
			}
		}
		if got := entry.Right(x); got != right {
			t.Fatalf("Right(%+v): %t", x, got)
		}
	}
}

// TestPlaces: P13.1 and P13.2, each number, and each part of the sum, alone, where it stands.
func TestPlaces(t *testing.T) {
	for _, c := range []struct {
		x api.Entry
		b [size]byte
	}{
		{api.Entry{}, [size]byte{}},
		{api.Entry{Kind: api.Breakage}, [size]byte{0: 4}},
		{api.Entry{Who: 255}, [size]byte{1: 255}},
		{api.Entry{Ask: api.Ask{Op: api.Stats}}, [size]byte{2: 7}},
		{api.Entry{Ask: api.Ask{Wait: true}}, [size]byte{3: 1}},
		{api.Entry{Ask: api.Ask{Force: true}}, [size]byte{3: 2}},
		{api.Entry{Good: true}, [size]byte{3: 4}},
		{api.Entry{Ask: api.Ask{Wait: true, Force: true}}, [size]byte{3: 3}},
		{api.Entry{Ask: api.Ask{Wait: true}, Good: true}, [size]byte{3: 5}},
		{api.Entry{Ask: api.Ask{Force: true}, Good: true}, [size]byte{3: 6}},
		{api.Entry{Ask: api.Ask{Wait: true, Force: true}, Good: true}, [size]byte{3: 7}},
		{api.Entry{Ask: api.Ask{Slot: 255}}, [size]byte{4: 255}},
		{api.Entry{Ask: api.Ask{Stream: 255}}, [size]byte{5: 255}},
		{api.Entry{Ask: api.Ask{Gen: 255}}, [size]byte{6: 255}},
		{api.Entry{Ask: api.Ask{Gen: 256}}, [size]byte{7: 1}},
		{api.Entry{Ask: api.Ask{Gen: 65535}}, [size]byte{6: 255, 7: 255}},
		{api.Entry{Ask: api.Ask{Deadline: 255}}, [size]byte{8: 255}},
		{api.Entry{Ask: api.Ask{Deadline: 256}}, [size]byte{9: 1}},
		{api.Entry{Ask: api.Ask{Deadline: 65535}}, [size]byte{8: 255, 9: 255}},
		{api.Entry{N: 255}, [size]byte{10: 255}},
		{api.Entry{N: 256}, [size]byte{11: 1}},
		{api.Entry{N: 65535}, [size]byte{10: 255, 11: 255}},
	} {
		encodes(t, []api.Entry{c.x}, c.b[:])
		decodes(t, c.b[:], []api.Entry{c.x})
	}
}

// TestEncode: P13.1, the bytes of several entries, one behind the other; of none no bytes.
func TestEncode(t *testing.T) {
	encodes(t, nil, nil)
	encodes(t, []api.Entry{}, nil)
	encodes(t, []api.Entry{whole}, wholeBytes)
	pick := api.Entry{Kind: api.Pick, Who: 3}
	encodes(t, []api.Entry{pick, whole, pick}, slices.Concat([]byte{1, 3, 0, 0, 0, 0, 0, 0, 0, 0, 0, 0}, wholeBytes, []byte{1, 3, 0, 0, 0, 0, 0, 0, 0, 0, 0, 0}))
}

// TestEncodeWrong: P13.1, no bytes of entries one of which isn't right, whatever is wrong with it, and wherever it stands.
func TestEncodeWrong(t *testing.T) {
	for _, x := range wrong() {
		encodesNone(t, []api.Entry{x}, api.ErrArg)
		encodesNone(t, []api.Entry{whole, x}, api.ErrArg)
		encodesNone(t, []api.Entry{x, whole}, api.ErrArg)
		encodesNone(t, []api.Entry{whole, x, whole}, api.ErrArg)
	}
}

// TestEncodeLong: P13.1, as many entries as there may be, and more; that there are too many comes first.
func TestEncodeLong(t *testing.T) {
	l := slices.Repeat([]api.Entry{whole}, most+1)
	encodes(t, l[:most-1], bytes.Repeat(wholeBytes, most-1))
	encodes(t, l[:most], bytes.Repeat(wholeBytes, most))
	encodesNone(t, l, api.ErrLong)
	encodesNone(t, slices.Repeat(l, 3), api.ErrLong)
	for _, at := range []int{0, most / 2, most - 1, most} {
		m := slices.Clone(l)
		m[at].Kind = 5
		encodesNone(t, m, api.ErrLong)
		if at < most {
			encodesNone(t, m[:most], api.ErrArg)
		}
	}
}

// TestDecode: P13.2, the entries of several ones' bytes; of no bytes none.
func TestDecode(t *testing.T) {
	decodes(t, nil, nil)
	decodes(t, []byte{}, nil)
	decodes(t, wholeBytes, []api.Entry{whole})
	pick := []byte{1, 3, 0, 0, 0, 0, 0, 0, 0, 0, 0, 0}
	decodes(t, slices.Concat(pick, wholeBytes, pick), []api.Entry{{Kind: api.Pick, Who: 3}, whole, {Kind: api.Pick, Who: 3}})
}

// TestDecodeEachByte: P13.2, whatever byte stands at whatever place, of an entry that is first, last, or in between.
func TestDecodeEachByte(t *testing.T) {
	limits := [size]int{4, 255, 7, 7, 255, 255, 255, 255, 255, 255, 255, 255}
	for _, base := range [][]byte{make([]byte, size), wholeBytes} {
		for at, limit := range limits {
			for v := range 256 {
				b := slices.Clone(base)
				b[at] = byte(v)
				for _, all := range [][]byte{b, slices.Concat(wholeBytes, b), slices.Concat(b, wholeBytes), slices.Concat(wholeBytes, b, wholeBytes)} {
					if v > limit {
						decodesNone(t, all, api.ErrForm)
					} else if l, e := entry.Decode(all); e != api.OK || len(l) != len(all)/size {
						t.Errorf("Decode(% x): %+v, %v", all, l, e)
					}
				}
			}
		}
	}
}

// TestDecodeLength: P13.2, bytes of every length up to some entries'.
func TestDecodeLength(t *testing.T) {
	b := bytes.Repeat(wholeBytes, 5)
	for n := range len(b) + 1 {
		if n%size != 0 {
			decodesNone(t, b[:n], api.ErrForm)
		} else {
			decodes(t, b[:n], slices.Repeat([]api.Entry{whole}, n/size))
		}
	}
}

// TestDecodeLong: P13.2, as many entries as there may be, and more. A length that can't be comes ahead of one that is too long, and that ahead of a wrong entry.
func TestDecodeLong(t *testing.T) {
	b := bytes.Repeat(wholeBytes, most+3)
	for many := most - 1; many <= most+2; many++ {
		for _, at := range []int{-1, 0, most / 2, most - 2, many - 1} {
			for _, place := range []int{0, 2, 3} {
				all, want := slices.Clone(b), api.OK
				if at >= 0 {
					all[at*size+place], want = 8, api.ErrForm
				}
				if many > most {
					want = api.ErrLong
				}
				if want != api.OK {
					decodesNone(t, all[:many*size], want)
				} else {
					decodes(t, all[:many*size], slices.Repeat([]api.Entry{whole}, many))
				}
				decodesNone(t, all[:many*size+1], api.ErrForm)
				decodesNone(t, all[:many*size+size-1], api.ErrForm)
			}
		}
	}
}

// TestThereAndBack: P13.3, what is encoded is decoded, and what is decoded is encoded to the same bytes.
func TestThereAndBack(t *testing.T) {
	r := rand.New(rand.NewPCG(13, 3))
	for many := range most + 1 {
		var l []api.Entry
		var want []byte
		for range many {
			x := some(r)
			l, want = append(l, x), append(want, written(x)...)
		}
		b, e := entry.Encode(l)
		if e != api.OK || !bytes.Equal(b, want) {
			t.Fatalf("Encode(%+v): % x, %v, want % x", l, b, e, want)
		}
		if back, e := entry.Decode(b); e != api.OK || !slices.Equal(back, l) {
			t.Fatalf("Decode(% x): %+v, %v, want %+v", b, back, e, l)
		}
	}
}

// TestOneForm: P13.3, of any bytes that are decoded the entries have just these bytes.
func TestOneForm(t *testing.T) {
	r := rand.New(rand.NewPCG(13, 4))
	done := 0
	for range 100000 {
		b := make([]byte, size)
		for i := range b {
			b[i] = byte(r.IntN(256) >> r.IntN(9))
		}
		l, e := entry.Decode(b)
		if e != api.OK {
			decodesNone(t, b, api.ErrForm)
			continue
		}
		done++
		if len(l) != 1 || !entry.Right(l[0]) {
			t.Fatalf("Decode(% x): %+v", b, l)
		}
		encodes(t, l, b)
	}
	if done < 1000 {
		t.Errorf("only %d were decoded", done)
	}
}

// TestOwnMemory: R5, what is handed in isn't changed, and who changes an answer, or adds to it, or changes what was handed in, changes nothing else.
func TestOwnMemory(t *testing.T) {
	l := []api.Entry{whole, {}, whole}
	room := append(slices.Concat(wholeBytes, make([]byte, size), wholeBytes), 1, 2, 3)
	b := room[:3*size]
	wrote, _ := entry.Encode(l[:2])
	_ = append(wrote, 9)
	again, _ := entry.Encode(l[:2])
	read, _ := entry.Decode(b)
	_ = append(read, api.Entry{Who: 9})
	reread, _ := entry.Decode(b)
	for i := range wrote {
		wrote[i] = 9
	}
	read[0], read[1], read[2] = api.Entry{}, whole, api.Entry{}
	if !slices.Equal(l, []api.Entry{whole, {}, whole}) || !bytes.Equal(room, append(slices.Concat(wholeBytes, make([]byte, size), wholeBytes), 1, 2, 3)) {
		t.Errorf("handed in: %+v, % x", l, room)
	}
	for i := range room {
		room[i] = 1
	}
	l[0], l[1] = api.Entry{}, whole
	if !bytes.Equal(again, append(slices.Clone(wholeBytes), make([]byte, size)...)) || !slices.Equal(reread, []api.Entry{whole, {}, whole}) {
		t.Errorf("answered: % x, %+v", again, reread)
	}
}

// TestAgain: R6, what a call answers hangs on nothing that was asked ahead of it.
func TestAgain(t *testing.T) {
	for range 2 {
		encodes(t, []api.Entry{whole}, wholeBytes)
		encodesNone(t, []api.Entry{{Kind: 5}}, api.ErrArg)
		encodesNone(t, make([]api.Entry, most+1), api.ErrLong)
		decodes(t, wholeBytes, []api.Entry{whole})
		decodesNone(t, wholeBytes[:5], api.ErrForm)
		decodesNone(t, make([]byte, size*(most+1)), api.ErrLong)
	}
}
