package succ_test

import (
	"math"
	"math/rand"
	"strings"
	"testing"

	"trellis/api"
	"trellis/succ"
)

func makeBits(t *testing.T, text string) *succ.Bits {
	t.Helper()
	b, e := succ.NewBits(text)
	if b == nil || e != api.OK {
		t.Fatalf("NewBits of %d bytes: made %v, error %d", len(text), b != nil, e)
	}
	return b
}

func wantRank(t *testing.T, b *succ.Bits, i, want int) {
	t.Helper()
	if got, e := b.Rank(i); got != want || e != api.OK {
		t.Fatalf("Rank(%d) = %d, %d, want %d, 0", i, got, e, want)
	}
}

func wantSelect(t *testing.T, b *succ.Bits, k, want int) {
	t.Helper()
	if got, e := b.Select(k); got != want || e != api.OK {
		t.Fatalf("Select(%d) = %d, %d, want %d, 0", k, got, e, want)
	}
}

func wantNoRank(t *testing.T, b *succ.Bits, i int) {
	t.Helper()
	if got, e := b.Rank(i); got != 0 || e != api.ErrRange {
		t.Fatalf("Rank(%d) = %d, %d, want 0, ErrRange", i, got, e)
	}
}

func wantNoSelect(t *testing.T, b *succ.Bits, k int) {
	t.Helper()
	if got, e := b.Select(k); got != 0 || e != api.ErrRange {
		t.Fatalf("Select(%d) = %d, %d, want 0, ErrRange", k, got, e)
	}
}

// wantCounted holds every answer against counting one by one.
func wantCounted(t *testing.T, text string) {
	t.Helper()
	b := makeBits(t, text)
	if b.Len() != len(text) {
		t.Fatalf("Len = %d, want %d", b.Len(), len(text))
	}
	ones := 0
	for i := range len(text) {
		wantRank(t, b, i, ones)
		if text[i] == '1' {
			wantSelect(t, b, ones, i)
			ones++
		}
	}
	wantRank(t, b, len(text), ones)
	for _, i := range []int{-1, len(text) + 1, math.MaxInt, math.MinInt} {
		wantNoRank(t, b, i)
	}
	for _, k := range []int{-1, ones, ones + 1, math.MaxInt, math.MinInt} {
		wantNoSelect(t, b, k)
	}
}

// drawText draws bits of which about share in a thousand are ones.
func drawText(r *rand.Rand, length, share int) string {
	text := make([]byte, length)
	for i := range text {
		text[i] = '0'
		if r.Intn(1000) < share {
			text[i] = '1'
		}
	}
	return string(text)
}

func TestBitsExample(t *testing.T) {
	b := makeBits(t, "01101")
	if b.Len() != 5 {
		t.Errorf("Len = %d, want 5", b.Len())
	}
	wantRank(t, b, 3, 2)
	wantSelect(t, b, 2, 4)
	wantNoSelect(t, b, 3)
}

func TestBitsDrawn(t *testing.T) {
	r := rand.New(rand.NewSource(3))
	for _, share := range []int{0, 2, 30, 500, 970, 998, 1000} {
		for length := range 270 {
			wantCounted(t, drawText(r, length, share))
		}
		for range 10 {
			wantCounted(t, drawText(r, r.Intn(5000), share))
		}
	}
}

// A single one among zeros, and a single zero among ones, at each place of a
// few words: where words meet, counting goes wrong first.
func TestBitsSingle(t *testing.T) {
	const length = 200
	for i := range length {
		wantCounted(t, strings.Repeat("0", i)+"1"+strings.Repeat("0", length-1-i))
		wantCounted(t, strings.Repeat("1", i)+"0"+strings.Repeat("1", length-1-i))
	}
}

func TestBitsEmpty(t *testing.T) {
	b := makeBits(t, "")
	if b.Len() != 0 {
		t.Errorf("Len = %d, want 0", b.Len())
	}
	wantRank(t, b, 0, 0)
	for _, i := range []int{-1, 1, math.MaxInt, math.MinInt} {
		wantNoRank(t, b, i)
	}
	for _, k := range []int{-1, 0, 1, math.MaxInt, math.MinInt} {
		wantNoSelect(t, b, k)
	}
}

func TestBitsEnds(t *testing.T) {
	for _, length := range []int{1, 63, 64, 65, 127, 128, 129, api.MaxBits} {
		all := makeBits(t, strings.Repeat("1", length))
		wantRank(t, all, 0, 0)
		wantRank(t, all, length, length)
		wantSelect(t, all, 0, 0)
		wantSelect(t, all, length-1, length-1)
		wantNoRank(t, all, length+1)
		wantNoSelect(t, all, length)

		none := makeBits(t, strings.Repeat("0", length))
		wantRank(t, none, length, 0)
		wantNoSelect(t, none, 0)
	}
}

func TestBitsMost(t *testing.T) {
	if api.MaxBits != 100000 {
		t.Fatalf("MaxBits = %d", api.MaxBits)
	}
	r := rand.New(rand.NewSource(4))
	for _, share := range []int{0, 1, 500, 1000} {
		wantCounted(t, drawText(r, 100000, share))
		wantNoBits(t, drawText(r, 100001, share))
	}
	wantNoBits(t, strings.Repeat("x", 100001))
	wantNoBits(t, strings.Repeat("1", 1000000))
}

func wantNoBits(t *testing.T, text string) {
	t.Helper()
	if b, e := succ.NewBits(text); b != nil || e != api.ErrInput {
		t.Fatalf("NewBits(%.40q), %d bytes: made %v, error %d, want nil, ErrInput", text, len(text), b != nil, e)
	}
}

func TestBitsWrongBytes(t *testing.T) {
	good := strings.Repeat("0110", 50)
	for c := range 256 {
		if c == '0' || c == '1' {
			continue
		}
		wrong := string([]byte{byte(c)})
		wantNoBits(t, wrong)
		for _, at := range []int{0, 1, 63, 64, 65, 128, len(good) - 1, len(good)} {
			wantNoBits(t, good[:at]+wrong+good[at:])
		}
	}
	wantNoBits(t, strings.Repeat("1", api.MaxBits-1)+"2")
	wantNoBits(t, "٠١")
}

// What one vector answers hangs neither on another one nor on what was asked
// ahead of it, a wrong question or a refused text between them included (P2).
func TestBitsInTurns(t *testing.T) {
	r := rand.New(rand.NewSource(5))
	texts := []string{drawText(r, 700, 300), drawText(r, 700, 700)}
	vectors := []*succ.Bits{makeBits(t, texts[0]), makeBits(t, texts[1])}
	for range 2000 {
		for n, b := range vectors {
			i := r.Intn(701)
			ones := strings.Count(texts[n][:i], "1")
			wantRank(t, b, i, ones)
			if i < 700 && texts[n][i] == '1' {
				wantSelect(t, b, ones, i)
			}
			if b.Len() != 700 {
				t.Fatalf("Len = %d, want 700", b.Len())
			}
		}
		wantNoRank(t, vectors[r.Intn(2)], 701)
		wantNoSelect(t, vectors[r.Intn(2)], 700)
		wantNoBits(t, texts[0]+"2")
	}
}
