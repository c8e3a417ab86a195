// Package succ: vectors of bits, and sequences of small numbers: see DOC.md.
package succ

import "trellis/api"

// Small is what a sequence may be of.
type Small interface {
	uint8 | uint16
}

// Seq is a sequence of small numbers.
type Seq[T Small] struct{}

// NewSeq makes a sequence (P4).
func NewSeq[T Small](l []T) (*Seq[T], api.Errno) { return nil, 0 }

// Len tells how many numbers there are (P4).
func (s *Seq[T]) Len() int { return 0 }

// At tells the number at a place (P4).
func (s *Seq[T]) At(i int) (T, api.Errno) { var none T; return none, 0 }

// Rank tells how often a number is ahead of a place (P4).
func (s *Seq[T]) Rank(c T, i int) (int, api.Errno) { return 0, 0 }

// Select tells where a number is for the k-th time (P4).
func (s *Seq[T]) Select(c T, k int) (int, api.Errno) { return 0, 0 }

// Below tells how many numbers of a span are below one (P4).
func (s *Seq[T]) Below(x api.Span, c T) (int, api.Errno) { return 0, 0 }

// Least tells the k-th least number of a span (P4).
func (s *Seq[T]) Least(x api.Span, k int) (T, api.Errno) { var none T; return none, 0 }
