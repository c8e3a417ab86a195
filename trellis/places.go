package trellis

import (
	"slices"
	"sort"

	"trellis/api"
	"trellis/span"
	"trellis/succ"
)

// Where edges lie. A place of an edge is its number among all edges in order.
// What these functions ask is always there, so they look at no error.

func newGraph(nodes, labels int, edges []api.Edge) *Graph {
	g := &Graph{size: api.Size{Nodes: nodes, Labels: labels, Edges: len(edges)}}
	g.sources, _ = succ.NewBits(sourcesText(nodes, edges))
	g.labels, _ = succ.NewSeq(numbersOf(edges, func(e api.Edge) uint8 { return uint8(e.Label) }))
	byLabel := slices.SortedStableFunc(slices.Values(edges), compareLabels)
	g.targets, _ = succ.NewSeq(numbersOf(byLabel, func(e api.Edge) uint16 { return uint16(e.To) }))
	return g
}

func numbersOf[T succ.Small](edges []api.Edge, number func(api.Edge) T) []T {
	numbers := make([]T, 0, len(edges))
	for _, e := range edges {
		numbers = append(numbers, number(e))
	}
	return numbers
}

func (g *Graph) allNodes() api.Span { return api.Span{To: g.size.Nodes} }

// sourceOf tells where the edge at a place is from: as many nodes have ended
// ahead of it as there are zeros ahead of its one.
func (g *Graph) sourceOf(place int) int {
	at, _ := g.sources.Select(place)
	return at - place
}

// edgesAhead tells how many edges are from nodes ahead of u.
func (g *Graph) edgesAhead(u int) int {
	return sort.Search(g.size.Edges, func(place int) bool { return g.sourceOf(place) >= u })
}

func (g *Graph) edgeAt(place int) api.Edge {
	label, _ := g.labels.At(place)
	to, _ := g.targets.At(sortedPlace(g.labels, place))
	return api.Edge{From: g.sourceOf(place), Label: int(label), To: int(to)}
}

// placesFrom tells the places of the edges from a span of nodes, in order.
func (g *Graph) placesFrom(from api.Span) []int {
	var places []int
	stretch := span.Ends(from, g.edgesAhead)
	for place := stretch.From; place < stretch.To; place++ {
		places = append(places, place)
	}
	return places
}

// placesTo tells the places of the edges to a span of nodes, in order.
func (g *Graph) placesTo(to api.Span) []int {
	var places []int
	stretch := sortedSpan(g.targets.Below, whole(g.targets), to)
	for sorted := stretch.From; sorted < stretch.To; sorted++ {
		places = append(places, placeOf(g.labels, placeOf(g.targets, sorted)))
	}
	slices.Sort(places)
	return places
}

// edgesOf answers those questions that are for the edges at one end of which
// is a node of a span; it is handed the method that finds their places.
func (g *Graph) edgesOf(nodes api.Span, places func(*Graph, api.Span) []int) ([]api.Edge, api.Errno) {
	if !span.Is(nodes, g.size.Nodes) {
		return nil, api.ErrRange
	}
	var edges []api.Edge
	for _, place := range places(g, nodes) {
		edges = append(edges, g.edgeAt(place))
	}
	return edges, api.OK
}

// count takes one label after the other: the targets of all edges with one
// label, from a span of nodes, lie side by side.
func (g *Graph) count(from, labels, to api.Span) int {
	count := 0
	places := span.Ends(from, g.edgesAhead)
	for label := labels.From; label < labels.To; label++ {
		stretch := g.targetsOf(places, uint8(label))
		count += span.Len(sortedSpan(g.targets.Below, stretch, to))
	}
	return count
}

// targetsOf tells where the targets of those edges of a span of places lie
// that have one label.
func (g *Graph) targetsOf(places api.Span, label uint8) api.Span {
	first := sortedSpan(g.labels.Below, whole(g.labels), span.Only(int(label))).From
	return span.Ends(places, func(place int) int {
		ahead, _ := g.labels.Rank(label, place)
		return first + ahead
	})
}
