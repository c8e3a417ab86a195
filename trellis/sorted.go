package trellis

import (
	"trellis/api"
	"trellis/span"
	"trellis/succ"
)

// A sequence knows where its numbers would be, if they were in order: these
// functions go from one order to the other. Numbers that are the same stay in
// the order that they have.

func whole[T succ.Small](s *succ.Seq[T]) api.Span { return api.Span{To: s.Len()} }

// sortedSpan tells where the numbers of a span would be within a stretch of a
// sequence, if the stretch were in order; it is handed the sequence's Below.
func sortedSpan[T succ.Small](below func(api.Span, T) (int, api.Errno), stretch, numbers api.Span) api.Span {
	return span.Ends(numbers, func(number int) int {
		count, _ := below(stretch, T(number))
		return count
	})
}

// sortedPlace tells where the number at a place would be.
func sortedPlace[T succ.Small](s *succ.Seq[T], place int) int {
	number, _ := s.At(place)
	below, _ := s.Below(whole(s), number)
	ahead, _ := s.Rank(number, place)
	return below + ahead
}

// placeOf tells where the number is that would be at a place.
func placeOf[T succ.Small](s *succ.Seq[T], sorted int) int {
	number, _ := s.Least(whole(s), sorted)
	below, _ := s.Below(whole(s), number)
	place, _ := s.Select(number, sorted-below)
	return place
}
