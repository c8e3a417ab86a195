package succ

import (
	"math/bits"

	"trellis/api"
	"trellis/span"
)

// Seq is a sequence of small numbers.
type Seq[T Small] struct {
	length int
	// A level for each bit of T, the highest bit first. The first level has
	// the numbers in their own order; each further one has those whose bit of
	// the level above is 0 ahead of those whose bit is 1, and leaves them in
	// the order of the level above otherwise. So numbers that are alike in
	// their highest bits stay side by side, and a span narrows level by level.
	levels []*Bits
}

// NewSeq makes a sequence (P4).
func NewSeq[T Small](l []T) (*Seq[T], api.Errno) {
	if len(l) > api.MaxBits {
		return nil, api.ErrInput
	}
	s := &Seq[T]{length: len(l), levels: make([]*Bits, bits.Len16(uint16(^T(0))))}
	for depth := range s.levels {
		bit := s.bitAt(depth)
		s.levels[depth] = bitsOfNumbers(l, bit)
		l = zerosFirst(l, bit)
	}
	return s, api.OK
}

// bitAt gives the number that has but the bit of a level.
func (s *Seq[T]) bitAt(depth int) T {
	return 1 << (len(s.levels) - 1 - depth)
}

func bitsOfNumbers[T Small](l []T, bit T) *Bits {
	words := make([]uint64, len(l)/wordBits+1)
	for i, c := range l {
		if c&bit != 0 {
			words[i/wordBits] |= 1 << (i % wordBits)
		}
	}
	return bitsOfWords(words, len(l))
}

// zerosFirst gives a new list, since the first one that it is handed is the
// caller's.
func zerosFirst[T Small](l []T, bit T) []T {
	parted := make([]T, 0, len(l))
	for _, side := range [2]T{0, bit} {
		for _, c := range l {
			if c&bit == side {
				parted = append(parted, c)
			}
		}
	}
	return parted
}

// Len tells how many numbers there are (P4).
func (s *Seq[T]) Len() int { return s.length }

// At tells the number at a place (P4).
func (s *Seq[T]) At(i int) (T, api.Errno) {
	if i < 0 || i >= s.length {
		return 0, api.ErrRange
	}
	var c T
	for depth, level := range s.levels {
		one := level.isOne(i)
		if one {
			c |= s.bitAt(depth)
		}
		i = level.down(i, one)
	}
	return c, api.OK
}

// Rank tells how often a number is ahead of a place (P4).
func (s *Seq[T]) Rank(c T, i int) (int, api.Errno) {
	if i < 0 || i > s.length {
		return 0, api.ErrRange
	}
	return span.Len(s.placesOf(c, api.Span{To: i})), api.OK
}

// Select tells where a number is for the k-th time (P4).
func (s *Seq[T]) Select(c T, k int) (int, api.Errno) {
	places := s.placesOf(c, api.Span{To: s.length})
	if k < 0 || k >= span.Len(places) {
		return 0, api.ErrRange
	}
	i := places.From + k
	for depth := len(s.levels) - 1; depth >= 0; depth-- {
		i = s.levels[depth].up(i, c&s.bitAt(depth) != 0)
	}
	return i, api.OK
}

// placesOf tells where those numbers of a span that are c lie below the last
// level: side by side.
func (s *Seq[T]) placesOf(c T, x api.Span) api.Span {
	for depth, level := range s.levels {
		x = level.narrow(x, c&s.bitAt(depth) != 0)
	}
	return x
}

// Below tells how many numbers of a span are below one (P4).
func (s *Seq[T]) Below(x api.Span, c T) (int, api.Errno) {
	if !span.Is(x, s.length) {
		return 0, api.ErrRange
	}
	below := 0
	for depth, level := range s.levels {
		one := c&s.bitAt(depth) != 0
		if one {
			below += span.Len(level.narrow(x, false))
		}
		x = level.narrow(x, one)
	}
	return below, api.OK
}

// Least tells the k-th least number of a span (P4).
func (s *Seq[T]) Least(x api.Span, k int) (T, api.Errno) {
	if !span.Is(x, s.length) || k < 0 || k >= span.Len(x) {
		return 0, api.ErrRange
	}
	var c T
	for depth, level := range s.levels {
		zeros := span.Len(level.narrow(x, false))
		one := k >= zeros
		if one {
			k -= zeros
			c |= s.bitAt(depth)
		}
		x = level.narrow(x, one)
	}
	return c, api.OK
}
