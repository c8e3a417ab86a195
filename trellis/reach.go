package trellis

import (
	"trellis/api"
	"trellis/expr"
)

// walk goes all ways from a node at once. It tells ways apart by the node that
// they lead to and the places of the expression at which they stand: there are
// few of both, so it ends, though ways may go round for ever.
type walk struct {
	graph *Graph
	query *expr.Expr
	stops []stop
	// The nodes at which ways are to go on, each once.
	waiting []int
}

// stop is what is known of the ways to one node.
type stop struct {
	// Where they stand in the expression.
	seen expr.Set
	// The part of it from where they have not gone on yet.
	fresh expr.Set
	// The edges from the node, once they were asked for: ways come to a node
	// again and again, and finding its edges takes longer than going on.
	edges []api.Edge
	asked bool
}

func (g *Graph) reach(u int, query *expr.Expr) []int {
	w := &walk{graph: g, query: query, stops: make([]stop, g.size.Nodes)}
	w.come(u, query.Start())
	for len(w.waiting) > 0 {
		w.goOn()
	}
	var nodes []int
	for v := range w.stops {
		if query.IsText(w.stops[v].seen) {
			nodes = append(nodes, v)
		}
	}
	return nodes
}

// come notes that ways lead to a node, and stand at these places there.
func (w *walk) come(v int, at expr.Set) {
	s := &w.stops[v]
	fresh := at.Without(s.seen)
	if fresh.IsEmpty() {
		return
	}
	if s.fresh.IsEmpty() {
		w.waiting = append(w.waiting, v)
	}
	s.seen = s.seen.Or(fresh)
	s.fresh = s.fresh.Or(fresh)
}

// goOn takes a node that waits, and goes along the edges from it.
func (w *walk) goOn() {
	last := len(w.waiting) - 1
	u := w.waiting[last]
	w.waiting = w.waiting[:last]
	behind := w.query.Behind(w.stops[u].fresh)
	w.stops[u].fresh = expr.Set{}
	if behind.IsEmpty() {
		return
	}
	for _, e := range w.edgesFrom(u) {
		w.come(e.To, behind.And(w.query.Taking(e.Label)))
	}
}

func (w *walk) edgesFrom(u int) []api.Edge {
	s := &w.stops[u]
	if !s.asked {
		s.edges, _ = w.graph.Out(u)
		s.asked = true
	}
	return s.edges
}
