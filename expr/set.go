package expr

import (
	"iter"
	"math/bits"

	"trellis/api"
)

const wordBits = 64

// Set is a set of places. It has room for the place 0 and for as many more as
// the longest expression has bytes.
type Set [api.MaxQuery/wordBits + 1]uint64

// IsEmpty tells whether no place is in a set.
func (s Set) IsEmpty() bool { return s == Set{} }

// Or gives the places that are in either set.
func (s Set) Or(other Set) Set {
	for i, word := range other {
		s[i] |= word
	}
	return s
}

// And gives the places that are in both sets.
func (s Set) And(other Set) Set {
	for i, word := range other {
		s[i] &= word
	}
	return s
}

// Without gives the places that are in s alone.
func (s Set) Without(other Set) Set {
	for i, word := range other {
		s[i] &^= word
	}
	return s
}

func only(place int) Set {
	var s Set
	s[place/wordBits] = 1 << (place % wordBits)
	return s
}

// places goes through the places of a set.
func (s Set) places() iter.Seq[int] {
	return func(yield func(int) bool) {
		for i, word := range s {
			for ; word != 0; word &= word - 1 {
				if !yield(i*wordBits + bits.TrailingZeros64(word)) {
					return
				}
			}
		}
	}
}
