package succ

import (
	"math/bits"
	"sort"

	"trellis/api"
)

const wordBits = 64

// Bits is a vector of bits.
type Bits struct {
	length int
	ones   int
	// The first bit is the lowest of the first word. There is always a word
	// that holds the place behind the last bit, so that Rank needs no case of
	// its own at the end.
	words []uint64
	// How many ones are ahead of each word: with these Rank counts within one
	// word only, and Select finds its word by halving.
	ahead []uint32
}

// NewBits makes a vector of bits out of a text of 0 and 1 (P3).
func NewBits(text string) (*Bits, api.Errno) {
	if len(text) > api.MaxBits {
		return nil, api.ErrInput
	}
	words := make([]uint64, len(text)/wordBits+1)
	for i := range len(text) {
		switch text[i] {
		case '0':
		case '1':
			words[i/wordBits] |= 1 << (i % wordBits)
		default:
			return nil, api.ErrInput
		}
	}
	return bitsOfWords(words, len(text)), api.OK
}

func bitsOfWords(words []uint64, length int) *Bits {
	ahead := make([]uint32, len(words))
	ones := 0
	for i, word := range words {
		ahead[i] = uint32(ones)
		ones += bits.OnesCount64(word)
	}
	return &Bits{length: length, ones: ones, words: words, ahead: ahead}
}

// Len tells how many bits there are (P3).
func (b *Bits) Len() int { return b.length }

// Rank tells how many ones are ahead of a place (P3).
func (b *Bits) Rank(i int) (int, api.Errno) {
	if i < 0 || i > b.length {
		return 0, api.ErrRange
	}
	return b.onesAhead(i), api.OK
}

func (b *Bits) onesAhead(i int) int {
	word := i / wordBits
	before := uint64(1)<<(i%wordBits) - 1
	return int(b.ahead[word]) + bits.OnesCount64(b.words[word]&before)
}

// Select tells where the k-th one is (P3).
func (b *Bits) Select(k int) (int, api.Errno) {
	if k < 0 || k >= b.ones {
		return 0, api.ErrRange
	}
	return b.find(k, true), api.OK
}

// find tells where the k-th one, or the k-th zero, is; there must be one. (The
// zeros that fill up the last word come last, so they are not in the way.)
func (b *Bits) find(k int, one bool) int {
	// None are ahead of the first word, so a word is always found.
	at := sort.Search(len(b.words), func(i int) bool { return b.aheadOfWord(i, one) > k }) - 1
	word := b.words[at]
	if !one {
		word = ^word
	}
	return at*wordBits + selectInWord(word, k-b.aheadOfWord(at, one))
}

func (b *Bits) aheadOfWord(at int, one bool) int {
	if one {
		return int(b.ahead[at])
	}
	return at*wordBits - int(b.ahead[at])
}

// selectInWord tells where the k-th one of a word is, counted from the lowest
// bit on; the word has more than k ones.
func selectInWord(word uint64, k int) int {
	place := 0
	for half := wordBits / 2; half > 0; half /= 2 {
		low := bits.OnesCount64(word & (1<<half - 1))
		if k >= low {
			k -= low
			word >>= half
			place += half
		}
	}
	return place
}
