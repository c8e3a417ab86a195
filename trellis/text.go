package trellis

import (
	"cmp"
	"math/bits"
	"slices"
	"strings"

	"trellis/api"
)

// How many bits the numbers of nodes, labels and edges are written in.
const (
	nodesWidth  = 14
	labelsWidth = 5
	edgesWidth  = 15
)

// width tells how many bits a number below k takes.
func width(k int) int { return bits.Len(uint(k - 1)) }

func isSize(size api.Size) bool {
	return 1 <= size.Nodes && size.Nodes <= api.MaxNodes &&
		1 <= size.Labels && size.Labels <= api.MaxLabels &&
		size.Edges <= api.MaxEdges
}

func isEdge(e api.Edge, size api.Size) bool {
	return isBelow(e.From, size.Nodes) && isBelow(e.Label, size.Labels) && isBelow(e.To, size.Nodes)
}

func isBelow(number, bound int) bool { return 0 <= number && number < bound }

// inOrder gives each edge once, in a new list.
func inOrder(edges []api.Edge) []api.Edge {
	return slices.Compact(slices.SortedFunc(slices.Values(edges), compare))
}

func compare(a, b api.Edge) int {
	return cmp.Or(cmp.Compare(a.From, b.From), compareLabels(a, b), cmp.Compare(a.To, b.To))
}

func compareLabels(a, b api.Edge) int { return cmp.Compare(a.Label, b.Label) }

// textOf writes a graph as a text of bits; its edges are in order.
func textOf(nodes, labels int, edges []api.Edge) string {
	var text strings.Builder
	addNumber(&text, nodes, nodesWidth)
	addNumber(&text, labels, labelsWidth)
	addNumber(&text, len(edges), edgesWidth)
	text.WriteString(sourcesText(nodes, edges))
	for _, e := range edges {
		addNumber(&text, e.Label, width(labels))
	}
	for _, e := range edges {
		addNumber(&text, e.To, width(nodes))
	}
	return text.String()
}

func addNumber(text *strings.Builder, number, width int) {
	for at := width - 1; at >= 0; at-- {
		text.WriteByte('0' + byte(number>>at&1))
	}
}

// sourcesText writes where edges are from: for each node as many ones as edges
// are from it, and a 0.
func sourcesText(nodes int, edges []api.Edge) string {
	var text strings.Builder
	at := 0
	for u := range nodes {
		for ; at < len(edges) && edges[at].From == u; at++ {
			text.WriteByte('1')
		}
		text.WriteByte('0')
	}
	return text.String()
}

// reader goes through a text of bits. Behind its end it finds only zeros: a
// graph that was read from there is written longer than the text is, so it is
// not taken for what the text holds.
type reader struct {
	text string
	at   int
}

func (r *reader) bit() int {
	if r.at >= len(r.text) {
		return 0
	}
	r.at++
	return int(r.text[r.at-1] - '0')
}

func (r *reader) number(width int) int {
	number := 0
	for range width {
		number = number<<1 | r.bit()
	}
	return number
}

func (r *reader) size() api.Size {
	nodes := r.number(nodesWidth)
	labels := r.number(labelsWidth)
	return api.Size{Nodes: nodes, Labels: labels, Edges: r.number(edgesWidth)}
}

// edges reads what stands behind a size. What it gives is looked at by writing
// it again; here it is only kept from being much more than the size says.
func (r *reader) edges(size api.Size) []api.Edge {
	var edges []api.Edge
	for u := 0; u < size.Nodes && len(edges) <= size.Edges; {
		if r.bit() == 1 {
			edges = append(edges, api.Edge{From: u})
		} else {
			u++
		}
	}
	for i := range edges {
		edges[i].Label = r.number(width(size.Labels))
	}
	for i := range edges {
		edges[i].To = r.number(width(size.Nodes))
	}
	return edges
}
