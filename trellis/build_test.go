package trellis_test

import (
	"math"
	"math/rand"
	"slices"
	"testing"

	"trellis/api"
	"trellis/trellis"
)

// wantWritten builds a graph and holds the bytes against the document's.
func wantWritten(t *testing.T, nodes, labels int, edges []api.Edge) string {
	t.Helper()
	image := build(t, nodes, labels, edges)
	ordered := byKey(edges)
	if image != plainPages(plainText(nodes, labels, ordered)) {
		t.Fatalf("Build(%d, %d, %s) is not as the document writes it", nodes, labels, begin(edges))
	}
	m := len(ordered)
	if most := 1 + (34+nodes+m+m*plainWidth(labels)+m*plainWidth(nodes))/2016; len(image) > 256*most {
		t.Fatalf("P9: %d pages, at most %d", len(image)/256, most)
	}
	return image
}

func TestBuildExample(t *testing.T) {
	image := build(t, 2, 1, []api.Edge{edge(0, 0, 1)})
	if len(image) != 256 || image[:5] != "\x00\x08\x20\x00\x64" {
		t.Errorf("Build of the example: %d bytes, %x", len(image), image[:5])
	}
	for i := 5; i < 252; i++ {
		if image[i] != 0 {
			t.Fatalf("byte %d is %d, want 0", i, image[i])
		}
	}
	wantWritten(t, 2, 1, []api.Edge{edge(0, 0, 1)})
}

// The sum is held against the one value that is known for this kind of sum:
// of the text 123456789.
func TestPlainSum(t *testing.T) {
	if sum := plainSum([]byte("123456789")); sum != 0xfc891918 {
		t.Fatalf("the sum that tests go by is %x", sum)
	}
}

func TestBuildDrawn(t *testing.T) {
	r := rand.New(rand.NewSource(11))
	for range 400 {
		nodes, labels := 1+r.Intn(40), 1+r.Intn(26)
		wantWritten(t, nodes, labels, drawEdges(r, nodes, labels, r.Intn(120)))
	}
	for range 20 {
		nodes, labels := 1+r.Intn(10000), 1+r.Intn(26)
		wantWritten(t, nodes, labels, drawEdges(r, nodes, labels, r.Intn(3000)))
	}
}

// Where widths change: at the powers of two, and at 1, whose width is 0.
func TestBuildWidths(t *testing.T) {
	r := rand.New(rand.NewSource(12))
	for _, nodes := range []int{1, 2, 3, 4, 5, 8, 9, 256, 257, 8191, 8192, 8193, 9999, 10000} {
		for _, labels := range []int{1, 2, 3, 4, 5, 8, 9, 16, 17, 25, 26} {
			edges := drawEdges(r, nodes, labels, 20)
			edges = append(edges, edge(nodes-1, labels-1, nodes-1), edge(0, 0, 0), edge(0, labels-1, nodes-1))
			wantWritten(t, nodes, labels, edges)
		}
	}
}

func TestBuildNoEdges(t *testing.T) {
	for _, nodes := range []int{1, 2, 100, 10000} {
		for _, labels := range []int{1, 26} {
			wantWritten(t, nodes, labels, nil)
			wantWritten(t, nodes, labels, []api.Edge{})
		}
	}
}

// Where the bits just fill their pages there are no more, and one bit more
// takes a page more.
func TestBuildPages(t *testing.T) {
	for _, c := range []struct{ nodes, pages int }{
		{1, 1}, {1981, 1}, {1982, 1}, {1983, 2}, {2016*2 - 34, 2}, {2016*2 - 33, 3}, {2016*4 - 34, 4}, {2016*4 - 33, 5},
	} {
		if image := wantWritten(t, c.nodes, 1, nil); len(image) != 256*c.pages {
			t.Errorf("%d nodes without edges: %d bytes, want %d pages", c.nodes, len(image), c.pages)
		}
	}
}

func TestBuildMost(t *testing.T) {
	if api.MaxNodes != 10000 || api.MaxLabels != 26 || api.MaxEdges != 20000 {
		t.Fatal("the bounds of package api are not the document's")
	}
	wantWritten(t, 10000, 26, manyEdges(10000, 26, 20000))
	wantWritten(t, 10000, 1, manyEdges(10000, 1, 20000))
	wantWritten(t, 142, 1, allEdges(142, 1)[:20000])
	wantWritten(t, 28, 26, allEdges(28, 26)[:20000])
	r := rand.New(rand.NewSource(13))
	wantWritten(t, 10000, 26, drawEdges(r, 10000, 26, 20000))
}

func allEdges(nodes, labels int) []api.Edge {
	var edges []api.Edge
	for u := range nodes {
		for c := range labels {
			for v := range nodes {
				edges = append(edges, edge(u, c, v))
			}
		}
	}
	return edges
}

// An edge that is told more than once is there once, and the order in which
// edges are told is not to be seen.
func TestBuildToldTwice(t *testing.T) {
	r := rand.New(rand.NewSource(14))
	for range 100 {
		nodes, labels := 1+r.Intn(9), 1+r.Intn(5)
		edges := drawEdges(r, nodes, labels, 1+r.Intn(30))
		image := wantWritten(t, nodes, labels, edges)
		twice := append(slices.Clone(edges), edges...)
		r.Shuffle(len(twice), func(i, j int) { twice[i], twice[j] = twice[j], twice[i] })
		if build(t, nodes, labels, twice) != image {
			t.Fatal("edges that are told twice, in another order, are written otherwise")
		}
	}
	wantWritten(t, 3, 2, slices.Repeat([]api.Edge{edge(2, 1, 0)}, 20000))
}

func wantNoImage(t *testing.T, why string, nodes, labels int, edges []api.Edge) {
	t.Helper()
	if image, e := trellis.Build(nodes, labels, edges); image != "" || e != api.ErrInput {
		t.Fatalf("Build, %s: %d bytes, error %d, want none, ErrInput", why, len(image), e)
	}
}

func TestBuildWrongSizes(t *testing.T) {
	for _, nodes := range []int{0, -1, 10001, 16383, 16384, 16385, math.MaxInt, math.MinInt} {
		wantNoImage(t, "nodes", nodes, 1, nil)
		wantNoImage(t, "nodes", nodes, 26, []api.Edge{edge(0, 0, 0)})
	}
	for _, labels := range []int{0, -1, 27, 31, 32, 33, math.MaxInt, math.MinInt} {
		wantNoImage(t, "labels", 1, labels, nil)
		wantNoImage(t, "labels", 10000, labels, []api.Edge{edge(0, 0, 0)})
	}
	wantNoImage(t, "both", 0, 0, nil)
	wantNoImage(t, "all", -1, 99, make([]api.Edge, 20001))
}

// Edges are counted as they are told, the same ones too.
func TestBuildTooMany(t *testing.T) {
	wantWritten(t, 1, 1, make([]api.Edge, 20000))
	wantNoImage(t, "one too many, all the same", 1, 1, make([]api.Edge, 20001))
	wantNoImage(t, "one too many, all different", 10000, 26, manyEdges(10000, 26, 20001))
	wantNoImage(t, "far too many", 5, 5, make([]api.Edge, 100000))
}

func TestBuildWrongEdges(t *testing.T) {
	const nodes, labels = 5, 3
	good := []api.Edge{edge(0, 0, 1), edge(4, 2, 4), edge(2, 1, 3)}
	build(t, nodes, labels, good)
	for _, wrong := range []int{-1, math.MinInt, math.MaxInt, nodes, nodes + 1, 8, 16384} {
		for at := range len(good) + 1 {
			for _, e := range []api.Edge{edge(wrong, 0, 0), edge(0, wrong, 0), edge(0, 0, wrong), edge(wrong, wrong, wrong)} {
				wantNoImage(t, "a wrong edge", nodes, labels, slices.Insert(slices.Clone(good), at, e))
			}
		}
	}
	wantNoImage(t, "label 3 of 3", nodes, labels, []api.Edge{edge(0, 3, 0)})
	wantNoImage(t, "label 1 of 1", nodes, 1, []api.Edge{edge(0, 1, 0)})
	wantNoImage(t, "to 1 of 1", 1, labels, []api.Edge{edge(0, 0, 1)})
	wantNoImage(t, "from 1 of 1", 1, labels, []api.Edge{edge(1, 0, 0)})
	wantNoImage(t, "the last of most", 10000, 26, append(make([]api.Edge, 19999), edge(0, 26, 0)))
}

// The list that is handed in is not written into, its spare room not either
// (P2).
func TestBuildListIsTheCallers(t *testing.T) {
	r := rand.New(rand.NewSource(15))
	room := drawEdges(r, 6, 3, 300)
	before := slices.Clone(room)
	image := build(t, 6, 3, room[50:250])
	if !slices.Equal(room, before) {
		t.Fatal("Build wrote into what it was handed")
	}
	clear(room)
	if image != build(t, 6, 3, before[50:250]) {
		t.Fatal("Build answers otherwise for the same edges")
	}
}
