// Package field is layer 1: see shared/doc/01-field.md.
package field

import (
	"iter"

	"coachhouse/api"
)

// Bits is how many are used.
const Bits = 62

// Right tells whether a field is. The sum of both may go round, so it isn't asked for.
func Right(f api.Field) bool {
	return f.At >= 0 && f.Width >= 1 && f.Width <= Bits && f.At <= Bits-f.Width
}

// Max is the greatest number it holds. Widths, and places below, are shifted by as uint, since a count below 0 would panic.
func Max(f api.Field) int {
	return 1<<uint(f.Width) - 1
}

// mask is a word with all of a field's bits.
func mask(f api.Field) int {
	return Max(f) << uint(f.At)
}

// Get is what it holds.
func Get(w int, f api.Field) int {
	return w >> uint(f.At) & Max(f)
}

// Put is a word with a number in it.
func Put(w int, f api.Field, v int) int {
	return w&^mask(f) | v<<uint(f.At)&mask(f)
}

// Apart tells whether fields have no bit in common.
func Apart(l []api.Field) bool {
	if !allRight(l) {
		return false
	}
	for a, b := range pairs(l) {
		if mask(a)&mask(b) != 0 {
			return false
		}
	}
	return true
}

func allRight(l []api.Field) bool {
	for _, f := range l {
		if !Right(f) {
			return false
		}
	}
	return true
}

// pairs tells each two fields once, those of the first few fields ahead of any later one: more than Bits right fields are never apart, so who looks for a bit in common has left by then, however long the list is.
func pairs(l []api.Field) iter.Seq2[api.Field, api.Field] {
	return func(yield func(a, b api.Field) bool) {
		for i, b := range l {
			for _, a := range l[:i] {
				if !yield(a, b) {
					return
				}
			}
		}
	}
}

// Pack is a word of numbers.
func Pack(l []api.Field, v []int) (int, bool) {
	if len(l) != len(v) || !Apart(l) {
		return 0, false
	}
	w := 0
	for i, f := range l {
		if v[i] < 0 || v[i] > Max(f) {
			return 0, false
		}
		w = Put(w, f, v[i])
	}
	return w, true
}

// Parts are a word's numbers.
func Parts(w int, l []api.Field) []int {
	if !allRight(l) {
		return nil
	}
	v := make([]int, 0, len(l))
	for _, f := range l {
		v = append(v, Get(w, f))
	}
	return v
}
