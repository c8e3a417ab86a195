package succ_test

import (
	"math"
	"math/rand"
	"slices"
	"testing"

	"trellis/api"
	"trellis/succ"
)

func makeSeq[T succ.Small](t *testing.T, l []T) *succ.Seq[T] {
	t.Helper()
	s, e := succ.NewSeq(l)
	if s == nil || e != api.OK {
		t.Fatalf("NewSeq of %d numbers: made %v, error %d", len(l), s != nil, e)
	}
	if s.Len() != len(l) {
		t.Fatalf("Len = %d, want %d", s.Len(), len(l))
	}
	return s
}

func wantNoSeq[T succ.Small](t *testing.T, l []T) {
	t.Helper()
	if s, e := succ.NewSeq(l); s != nil || e != api.ErrInput {
		t.Fatalf("NewSeq of %d numbers: made %v, error %d, want nil, ErrInput", len(l), s != nil, e)
	}
}

// answer is a number and an error, so that one comparison holds both.
type answer struct {
	number int
	errno  api.Errno
}

var outOfRange = answer{0, api.ErrRange}

func got[N int | uint8 | uint16](number N, e api.Errno) answer {
	return answer{int(number), e}
}

func fine[N int | uint8 | uint16](number N) answer {
	return answer{int(number), api.OK}
}

func wantSame(t *testing.T, call string, arguments any, is, want answer) {
	t.Helper()
	if is != want {
		t.Fatalf("%s(%v) = %v, want %v", call, arguments, is, want)
	}
}

func plainAt[T succ.Small](l []T, i int) answer {
	if i < 0 || i >= len(l) {
		return outOfRange
	}
	return fine(l[i])
}

func plainRank[T succ.Small](l []T, c T, i int) answer {
	if i < 0 || i > len(l) {
		return outOfRange
	}
	return fine(countWhere(l[:i], func(d T) bool { return d == c }))
}

func plainSelect[T succ.Small](l []T, c T, k int) answer {
	for i, d := range l {
		if d != c {
			continue
		}
		if k == 0 {
			return fine(i)
		}
		k--
	}
	return outOfRange
}

func plainPart[T succ.Small](l []T, x api.Span) ([]T, bool) {
	if x.From < 0 || x.From > x.To || x.To > len(l) {
		return nil, false
	}
	return l[x.From:x.To], true
}

func plainBelow[T succ.Small](l []T, x api.Span, c T) answer {
	part, is := plainPart(l, x)
	if !is {
		return outOfRange
	}
	return fine(countWhere(part, func(d T) bool { return d < c }))
}

func plainLeast[T succ.Small](l []T, x api.Span, k int) answer {
	part, is := plainPart(l, x)
	if !is || k < 0 || k >= len(part) {
		return outOfRange
	}
	return fine(slices.Sorted(slices.Values(part))[k])
}

func countWhere[T succ.Small](l []T, holds func(T) bool) int {
	n := 0
	for _, c := range l {
		if holds(c) {
			n++
		}
	}
	return n
}

func wantPlaces[T succ.Small](t *testing.T, s *succ.Seq[T], l []T, c T, i int) {
	t.Helper()
	wantSame(t, "At", i, got(s.At(i)), plainAt(l, i))
	wantSame(t, "Rank", []int{int(c), i}, got(s.Rank(c, i)), plainRank(l, c, i))
	wantSame(t, "Select", []int{int(c), i}, got(s.Select(c, i)), plainSelect(l, c, i))
}

func wantSpans[T succ.Small](t *testing.T, s *succ.Seq[T], l []T, x api.Span, c T, k int) {
	t.Helper()
	wantSame(t, "Below", []any{x, c}, got(s.Below(x, c)), plainBelow(l, x, c))
	wantSame(t, "Least", []any{x, k}, got(s.Least(x, k)), plainLeast(l, x, k))
}

// farPlaces are places that no sequence has, beside those just off its ends.
func farPlaces(length int) []int {
	return []int{-1, length, length + 1, math.MaxInt, math.MaxInt32, math.MinInt, math.MinInt32}
}

// someNumbers are the ends of T, numbers that are there, and their neighbours.
func someNumbers[T succ.Small](l []T) []T {
	numbers := []T{0, 1, 127, 128, ^T(0) / 2, ^T(0)/2 + 1, ^T(0) - 1, ^T(0)}
	for _, c := range l[:min(len(l), 6)] {
		numbers = append(numbers, c-1, c, c+1)
	}
	return numbers
}

// wantPlain asks a short sequence all there is to ask.
func wantPlain[T succ.Small](t *testing.T, l []T) {
	t.Helper()
	s := makeSeq(t, l)
	places := farPlaces(len(l))
	for i := range l {
		places = append(places, i)
	}
	for _, c := range someNumbers(l) {
		for _, i := range places {
			wantPlaces(t, s, l, c, i)
		}
	}
	for _, from := range places {
		for _, to := range places {
			x := api.Span{From: from, To: to}
			for _, c := range someNumbers(l) {
				wantSpans(t, s, l, x, c, 0)
			}
			for _, k := range places {
				wantSpans(t, s, l, x, 0, k)
			}
		}
	}
}

// wantDrawn asks a long sequence at places that are drawn.
func wantDrawn[T succ.Small](t *testing.T, r *rand.Rand, l []T, times int) {
	t.Helper()
	s := makeSeq(t, l)
	for range times {
		c := l[r.Intn(len(l))] + T(r.Intn(3)) - 1
		wantPlaces(t, s, l, c, r.Intn(len(l)+2))
		wantSame(t, "Select", c, got(s.Select(c, 1)), plainSelect(l, c, 1))
		x := api.Span{From: r.Intn(len(l) + 1), To: r.Intn(len(l) + 1)}
		wantSpans(t, s, l, x, c, r.Intn(len(l)))
		if x.From < x.To {
			wantSpans(t, s, l, x, c, r.Intn(x.To-x.From))
		}
	}
}

// drawNumbers draws numbers below most; 0 stands for all that T has.
func drawNumbers[T succ.Small](r *rand.Rand, length int, most T) []T {
	l := make([]T, length)
	for i := range l {
		l[i] = T(r.Intn(1 << 16))
		if most > 0 {
			l[i] %= most
		}
	}
	return l
}

func repeated[T succ.Small](c T, times int) []T {
	return slices.Repeat([]T{c}, times)
}

// inBoth runs one test over numbers of 8 and of 16 bits.
func inBoth(t *testing.T, narrow, wide func(*testing.T)) {
	t.Run("uint8", narrow)
	t.Run("uint16", wide)
}

func TestSeqExample(t *testing.T) { inBoth(t, holdExample[uint8], holdExample[uint16]) }

func holdExample[T succ.Small](t *testing.T) {
	s := makeSeq(t, []T{5, 2, 5, 9})
	wantSame(t, "Rank", "5, 3", got(s.Rank(5, 3)), fine(2))
	wantSame(t, "Select", "5, 1", got(s.Select(5, 1)), fine(2))
	wantSame(t, "Below", "0 to 4, 6", got(s.Below(api.Span{From: 0, To: 4}, 6)), fine(3))
	wantSame(t, "Least", "1 to 4, 1", got(s.Least(api.Span{From: 1, To: 4}, 1)), fine(5))
}

func TestSeqEmpty(t *testing.T) { inBoth(t, holdEmpty[uint8], holdEmpty[uint16]) }

func holdEmpty[T succ.Small](t *testing.T) {
	wantPlain(t, []T(nil))
	wantPlain(t, []T{})
	s := makeSeq(t, []T(nil))
	wantSame(t, "At", 0, got(s.At(0)), outOfRange)
	wantSame(t, "Rank", 0, got(s.Rank(7, 0)), fine(0))
	wantSame(t, "Select", 0, got(s.Select(0, 0)), outOfRange)
	wantSame(t, "Below", 0, got(s.Below(api.Span{}, ^T(0))), fine(0))
	wantSame(t, "Least", 0, got(s.Least(api.Span{}, 0)), outOfRange)
}

func TestSeqPlain(t *testing.T) { inBoth(t, holdPlain[uint8], holdPlain[uint16]) }

func holdPlain[T succ.Small](t *testing.T) {
	r := rand.New(rand.NewSource(6))
	for _, most := range []T{1, 2, 3, 5, 17, 128, 129, 200, ^T(0), 0} {
		for range 5 {
			wantPlain(t, drawNumbers(r, 1+r.Intn(12), most))
		}
	}
	wantPlain(t, repeated(^T(0), 9))
	wantPlain(t, repeated[T](0, 9))
}

// Each bit of T alone, and each alone missing: a level that is left out, told
// twice or upside down answers wrongly here.
func TestSeqEachBit(t *testing.T) { inBoth(t, holdEachBit[uint8], holdEachBit[uint16]) }

func holdEachBit[T succ.Small](t *testing.T) {
	l := []T{0, ^T(0)}
	for bit := T(1); bit != 0; bit <<= 1 {
		wantPlain(t, []T{bit, 0, bit, ^bit, bit - 1, bit})
		l = append(l, bit, ^bit)
	}
	s := makeSeq(t, l)
	whole := api.Span{To: len(l)}
	for i, c := range l {
		wantPlaces(t, s, l, c, i)
		wantPlaces(t, s, l, c, 0)
		wantSpans(t, s, l, whole, c, i)
	}
}

// Where the words of the levels meet.
func TestSeqLengths(t *testing.T) { inBoth(t, holdLengths[uint8], holdLengths[uint16]) }

func holdLengths[T succ.Small](t *testing.T) {
	r := rand.New(rand.NewSource(7))
	for _, length := range []int{62, 63, 64, 65, 127, 128, 129, 191, 192, 193} {
		for _, most := range []T{1, 2, 30, 0} {
			wantDrawn(t, r, drawNumbers(r, length, most), 300)
		}
		wantDrawn(t, r, repeated(^T(0), length), 50)
		wantEnds(t, drawNumbers[T](r, length, 3))
	}
}

// edgeSpans are the greatest and the least spans of a length, and such as are
// none.
func edgeSpans(n int) []api.Span {
	ends := [][2]int{
		{0, n}, {0, 0}, {n, n}, {0, 1}, {n - 1, n},
		{0, n + 1}, {n + 1, n + 1}, {-1, n}, {-1, -1}, {n, 0}, {n, n - 1},
		{math.MinInt, math.MaxInt}, {math.MaxInt, math.MinInt}, {math.MinInt, math.MinInt}, {math.MaxInt, math.MaxInt},
	}
	var spans []api.Span
	for _, x := range ends {
		spans = append(spans, api.Span{From: x[0], To: x[1]})
	}
	return spans
}

func wantEnds[T succ.Small](t *testing.T, l []T) {
	t.Helper()
	s := makeSeq(t, l)
	n := len(l)
	for _, c := range someNumbers(l) {
		often := plainRank(l, c, n).number
		for _, k := range []int{0, often - 1, often, often + 1} {
			wantSame(t, "Select", []int{int(c), k}, got(s.Select(c, k)), plainSelect(l, c, k))
		}
		for _, i := range append(farPlaces(n), 0, n-1) {
			wantPlaces(t, s, l, c, i)
		}
		for _, x := range edgeSpans(n) {
			for _, k := range append(farPlaces(n), 0, n-1) {
				wantSpans(t, s, l, x, c, k)
			}
		}
	}
}

func TestSeqMost(t *testing.T) { inBoth(t, holdMost[uint8], holdMost[uint16]) }

func holdMost[T succ.Small](t *testing.T) {
	r := rand.New(rand.NewSource(8))
	for _, most := range []T{1, 26, 0} {
		l := drawNumbers(r, 100000, most)
		wantDrawn(t, r, l, 20)
		wantEnds(t, l)
		wantNoSeq(t, append(l, 0))
	}
	wantNoSeq(t, make([]T, 1000000))
}

// The list that is handed in is neither kept nor written into, its spare room
// not either (P2).
func TestSeqListIsTheCallers(t *testing.T) { inBoth(t, holdCallers[uint8], holdCallers[uint16]) }

func holdCallers[T succ.Small](t *testing.T) {
	r := rand.New(rand.NewSource(9))
	room := drawNumbers[T](r, 300, 0)
	before := slices.Clone(room)
	s := makeSeq(t, room[50:250])
	if !slices.Equal(room, before) {
		t.Fatal("NewSeq wrote into what it was handed")
	}
	clear(room)
	l := before[50:250]
	for i := range l {
		wantPlaces(t, s, l, l[i], i)
		wantSpans(t, s, l, api.Span{From: i / 2, To: 200 - i/3}, l[i], i/3)
	}
}

// What one sequence answers hangs neither on another one nor on what was asked
// ahead of it, wrong questions between them included (P2).
func TestSeqInTurns(t *testing.T) { inBoth(t, holdTurns[uint8], holdTurns[uint16]) }

func holdTurns[T succ.Small](t *testing.T) {
	r := rand.New(rand.NewSource(10))
	lists := [][]T{drawNumbers[T](r, 90, 0), drawNumbers[T](r, 150, 9)}
	seqs := []*succ.Seq[T]{makeSeq(t, lists[0]), makeSeq(t, lists[1])}
	for range 1000 {
		for n, s := range seqs {
			l := lists[n]
			x := api.Span{From: r.Intn(160) - 5, To: r.Intn(160) - 5}
			wantPlaces(t, s, l, lists[r.Intn(2)][r.Intn(90)], r.Intn(160)-5)
			wantSpans(t, s, l, x, lists[r.Intn(2)][r.Intn(90)], r.Intn(160)-5)
			if s.Len() != len(l) {
				t.Fatalf("Len = %d, want %d", s.Len(), len(l))
			}
		}
	}
}
