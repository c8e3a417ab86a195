package trellis_test

import (
	"math"
	"math/rand"
	"slices"
	"testing"

	"trellis/api"
	"trellis/trellis"
)

func graphOf(t *testing.T, nodes, labels int, edges []api.Edge) *trellis.Graph {
	t.Helper()
	return open(t, build(t, nodes, labels, edges))
}

func where(edges []api.Edge, holds func(api.Edge) bool) []api.Edge {
	var out []api.Edge
	for _, e := range edges {
		if holds(e) {
			out = append(out, e)
		}
	}
	return out
}

// wantNode holds Out and In against the edges, which are in order.
func wantNode(t *testing.T, g *trellis.Graph, edges []api.Edge, u int) {
	t.Helper()
	out, e := g.Out(u)
	in, f := g.In(u)
	if u < 0 || u >= g.Size().Nodes {
		if len(out) != 0 || len(in) != 0 || e != api.ErrRange || f != api.ErrRange {
			t.Fatalf("of %d: Out %v, %d, In %v, %d, want ErrRange", u, out, e, in, f)
		}
		return
	}
	if e != api.OK || f != api.OK {
		t.Fatalf("of %d: Out says %d, In %d", u, e, f)
	}
	wantEdges(t, "Out", out, where(edges, func(e api.Edge) bool { return e.From == u }))
	wantEdges(t, "In", in, where(edges, func(e api.Edge) bool { return e.To == u }))
}

func within(number int, x api.Span) bool { return x.From <= number && number < x.To }

func isSpan(x api.Span, n int) bool { return x.From >= 0 && x.From <= x.To && x.To <= n }

func wantCount(t *testing.T, g *trellis.Graph, edges []api.Edge, from, label, to api.Span) {
	t.Helper()
	want, errno := 0, api.ErrRange
	if s := g.Size(); isSpan(from, s.Nodes) && isSpan(label, s.Labels) && isSpan(to, s.Nodes) {
		errno = api.OK
		want = len(where(edges, func(e api.Edge) bool {
			return within(e.From, from) && within(e.Label, label) && within(e.To, to)
		}))
	}
	if count, e := g.Count(from, label, to); count != want || e != errno {
		t.Fatalf("Count(%v, %v, %v) = %d, %d, want %d, %d", from, label, to, count, e, want, errno)
	}
}

func wantHas(t *testing.T, g *trellis.Graph, edges []api.Edge, x api.Edge) {
	t.Helper()
	errno := api.OK
	if s := g.Size(); min(x.From, x.Label, x.To) < 0 || x.From >= s.Nodes || x.Label >= s.Labels || x.To >= s.Nodes {
		errno = api.ErrRange
	}
	if is, e := g.Has(x); is != slices.Contains(edges, x) || e != errno {
		t.Fatalf("Has(%v) = %v, %d, want error %d", x, is, e, errno)
	}
}

// numbersAbout are all numbers below n, some off its ends, and the farthest.
func numbersAbout(n int) []int {
	numbers := []int{math.MinInt, math.MinInt32, -2, -1, n, n + 1, 256, 65536, math.MaxInt32, math.MaxInt - 1, math.MaxInt}
	for i := range n {
		numbers = append(numbers, i)
	}
	return numbers
}

func spansAbout(n int) []api.Span {
	var spans []api.Span
	for _, from := range numbersAbout(n) {
		for _, to := range numbersAbout(n) {
			spans = append(spans, api.Span{From: from, To: to})
		}
	}
	return spans
}

// A small graph is asked all there is to ask.
func TestAskAll(t *testing.T) {
	r := rand.New(rand.NewSource(31))
	for _, c := range []struct{ nodes, labels, edges int }{{1, 1, 0}, {1, 1, 1}, {1, 3, 2}, {2, 1, 3}, {4, 2, 9}, {3, 3, 27}} {
		edges := byKey(drawEdges(r, c.nodes, c.labels, c.edges))
		g := graphOf(t, c.nodes, c.labels, edges)
		for _, u := range numbersAbout(c.nodes) {
			wantNode(t, g, edges, u)
			for _, label := range numbersAbout(c.labels) {
				for _, v := range numbersAbout(c.nodes) {
					wantHas(t, g, edges, edge(u, label, v))
				}
			}
		}
		nodeSpans, labelSpans := spansAbout(c.nodes), spansAbout(c.labels)
		whole := api.Span{To: c.nodes}
		for _, x := range nodeSpans {
			wantCount(t, g, edges, x, api.Span{To: c.labels}, whole)
			wantCount(t, g, edges, whole, api.Span{To: c.labels}, x)
		}
		for _, y := range labelSpans {
			wantCount(t, g, edges, whole, y, whole)
			for range 100 {
				wantCount(t, g, edges, nodeSpans[r.Intn(len(nodeSpans))], y, nodeSpans[r.Intn(len(nodeSpans))])
			}
		}
	}
}

// drawSpan draws a span of n things.
func drawSpan(r *rand.Rand, n int) api.Span {
	a, b := r.Intn(n+1), r.Intn(n+1)
	return api.Span{From: min(a, b), To: max(a, b)}
}

func TestAskDrawn(t *testing.T) {
	r := rand.New(rand.NewSource(32))
	for range 150 {
		nodes, labels := 1+r.Intn(30), 1+r.Intn(26)
		edges := byKey(drawEdges(r, nodes, labels, r.Intn(300)))
		g := graphOf(t, nodes, labels, edges)
		wantGraph(t, g, nodes, labels, edges)
		for u := -1; u <= nodes; u++ {
			wantNode(t, g, edges, u)
		}
		for range 200 {
			wantCount(t, g, edges, drawSpan(r, nodes), drawSpan(r, labels), drawSpan(r, nodes))
			wantHas(t, g, edges, edge(r.Intn(nodes), r.Intn(labels), r.Intn(nodes)))
		}
		for _, e := range edges {
			wantHas(t, g, edges, e)
		}
	}
}

func TestAskEmptySpans(t *testing.T) {
	edges := allEdges(3, 2)
	g := graphOf(t, 3, 2, edges)
	nodes, labels := api.Span{To: 3}, api.Span{To: 2}
	for i := range 4 {
		none := api.Span{From: i, To: i}
		wantCount(t, g, edges, none, labels, nodes)
		wantCount(t, g, edges, nodes, labels, none)
		wantCount(t, g, edges, nodes, none, nodes)
	}
	wantCount(t, g, edges, nodes, labels, nodes)
}

// A wrong span is told, be the other ones right, empty or wrong too.
func TestAskWrongSpans(t *testing.T) {
	g := graphOf(t, 3, 2, allEdges(3, 2))
	for _, wrong := range []api.Span{
		{From: -1, To: 0}, {From: -1, To: -1}, {From: 1, To: 0}, {From: 0, To: 4}, {From: 4, To: 4}, {From: 3, To: 2},
		{From: math.MinInt, To: math.MaxInt}, {From: math.MaxInt, To: math.MinInt}, {From: math.MaxInt, To: math.MaxInt},
	} {
		for _, other := range []api.Span{{}, {To: 2}, {From: 2, To: 2}, wrong} {
			for at := range 3 {
				spans := [3]api.Span{other, other, other}
				spans[at] = wrong
				if count, e := g.Count(spans[0], spans[1], spans[2]); count != 0 || e != api.ErrRange {
					t.Fatalf("Count(%v) = %d, %d, want 0, ErrRange", spans, count, e)
				}
			}
		}
	}
	// Nodes are three, labels two: a span of the one is not always one of the other.
	if _, e := g.Count(api.Span{To: 3}, api.Span{To: 3}, api.Span{To: 3}); e != api.ErrRange {
		t.Errorf("Count with three labels of two: %d", e)
	}
}

// Many edges at one node, and nodes without any between such as have some.
func TestAskUneven(t *testing.T) {
	var star []api.Edge
	for v := range 500 {
		star = append(star, edge(250, v%26, v), edge(v, v%26, 250))
	}
	edges := byKey(star)
	g := graphOf(t, 500, 26, edges)
	for u := range 500 {
		wantNode(t, g, edges, u)
	}
	few := []api.Edge{edge(100, 0, 9999), edge(100, 25, 0), edge(9999, 3, 100)}
	g = graphOf(t, 10000, 26, few)
	for _, u := range []int{0, 1, 99, 100, 101, 5000, 9998, 9999, 10000} {
		wantNode(t, g, few, u)
	}
	wantCount(t, g, few, api.Span{From: 101, To: 10000}, api.Span{To: 26}, api.Span{To: 10000})
	wantCount(t, g, few, api.Span{To: 10000}, api.Span{From: 25, To: 26}, api.Span{To: 1})
}

func TestAskMost(t *testing.T) {
	r := rand.New(rand.NewSource(33))
	for _, c := range []struct {
		nodes, labels int
		edges         []api.Edge
	}{
		{10000, 26, drawEdges(r, 10000, 26, 20000)}, {10000, 1, manyEdges(10000, 1, 20000)},
		{28, 26, allEdges(28, 26)[:20000]}, {142, 1, allEdges(142, 1)[:20000]},
	} {
		edges := byKey(c.edges)
		g := graphOf(t, c.nodes, c.labels, edges)
		wantGraph(t, g, c.nodes, c.labels, edges)
		for _, u := range []int{0, 1, c.nodes - 1, c.nodes, r.Intn(c.nodes), r.Intn(c.nodes)} {
			wantNode(t, g, edges, u)
		}
		wantCount(t, g, edges, api.Span{To: c.nodes}, api.Span{To: c.labels}, api.Span{To: c.nodes})
		for range 200 {
			wantCount(t, g, edges, drawSpan(r, c.nodes), drawSpan(r, c.labels), drawSpan(r, c.nodes))
			wantHas(t, g, edges, edges[r.Intn(len(edges))])
			wantHas(t, g, edges, edge(r.Intn(c.nodes), r.Intn(c.labels), r.Intn(c.nodes)))
		}
	}
}

// Lists that come out are the caller's, their spare room too (P2).
func TestAskListsAreTheCallers(t *testing.T) {
	r := rand.New(rand.NewSource(34))
	edges := byKey(drawEdges(r, 5, 3, 40))
	g := graphOf(t, 5, 3, edges)
	asks := []func() []api.Edge{
		g.Edges,
		func() []api.Edge { l, _ := g.Out(2); return l },
		func() []api.Edge { l, _ := g.In(2); return l },
	}
	for _, ask := range asks {
		first, second := ask(), ask()
		want := slices.Clone(second)
		if len(first) == 0 {
			t.Fatal("no edges: this tests nothing")
		}
		room := first[:cap(first)]
		for i := range room {
			room[i] = edge(-9, -9, -9)
		}
		wantEdges(t, "a list from ahead", second, want)
		wantEdges(t, "a list asked anew", ask(), want)
		wantGraph(t, g, 5, 3, edges)
	}
}
