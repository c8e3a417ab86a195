package succ

import "trellis/api"

// What a sequence asks of a vector of bits that is one of its levels. Places
// are such as the sequence has; they are not looked at again.

func (b *Bits) isOne(i int) bool {
	return b.words[i/wordBits]>>(i%wordBits)&1 == 1
}

func (b *Bits) zeros() int { return b.length - b.ones }

// down tells where the next level has what is at the place i, if that is a
// one, or a zero. For a place where it is not, the answer is where the next
// such one is: what the ends of a span need.
func (b *Bits) down(i int, one bool) int {
	if one {
		return b.zeros() + b.onesAhead(i)
	}
	return i - b.onesAhead(i)
}

// up tells where this level has what is at the place i of the next one, if
// that is a one here, or a zero.
func (b *Bits) up(i int, one bool) int {
	if one {
		return b.find(i-b.zeros(), true)
	}
	return b.find(i, false)
}

// narrow tells where the ones or the zeros of a span lie in the next level.
func (b *Bits) narrow(x api.Span, one bool) api.Span {
	return api.Span{From: b.down(x.From, one), To: b.down(x.To, one)}
}
