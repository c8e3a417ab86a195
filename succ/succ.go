// Package succ: vectors of bits, and sequences of small numbers: see DOC.md.
package succ

// Small is what a sequence may be of.
type Small interface {
	uint8 | uint16
}
