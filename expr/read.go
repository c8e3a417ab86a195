package expr

import (
	"trellis/api"
	"trellis/span"
)

// Read reads an expression over so many labels. It says false, if the query is
// none.
func Read(query string, labels int) (*Expr, bool) {
	if len(query) > api.MaxQuery {
		return nil, false
	}
	r := &reader{rest: query, labels: labels}
	r.expr = &Expr{behind: make([]Set, 1), taking: make([]Set, labels)}
	whole := r.choice()
	if r.unclosed || r.rest != "" {
		return nil, false
	}
	start := part{last: only(0)}
	r.expr.ends = r.joined(start, whole).last
	return r.expr, true
}

// reader reads from the front. It stops at what may not stand where it is, so
// that something is left over.
type reader struct {
	rest     string
	labels   int
	expr     *Expr
	unclosed bool
}

// part is what there is to know of a part of an expression, to set it beside
// others: at which places its texts begin and end, and whether the empty text
// is one of them.
type part struct {
	first, last Set
	empty       bool
}

// choice reads rows with bars between.
func (r *reader) choice() part {
	whole := r.row()
	for r.take('|') {
		row := r.row()
		whole = part{
			first: whole.first.Or(row.first),
			last:  whole.last.Or(row.last),
			empty: whole.empty || row.empty,
		}
	}
	return whole
}

// row reads what stands one behind the other, with its stars.
func (r *reader) row() part {
	whole := part{empty: true}
	for {
		piece, is := r.piece()
		if !is {
			return whole
		}
		for r.take('*') {
			piece = r.starred(piece)
		}
		whole = r.joined(whole, piece)
	}
}

// piece reads a letter, a point, or what stands in brackets, if there is one.
func (r *reader) piece() (part, bool) {
	if r.take('(') {
		inner := r.choice()
		if !r.take(')') {
			r.unclosed = true
		}
		return inner, true
	}
	if r.take('.') {
		return r.newPlace(api.Span{To: r.labels}), true
	}
	for label := range r.labels {
		if r.take('a' + byte(label)) {
			return r.newPlace(span.Only(label)), true
		}
	}
	return part{}, false
}

func (r *reader) take(letter byte) bool {
	if r.rest == "" || r.rest[0] != letter {
		return false
	}
	r.rest = r.rest[1:]
	return true
}

// newPlace gives the part that is one place, which takes a span of labels.
func (r *reader) newPlace(labels api.Span) part {
	place := only(len(r.expr.behind))
	r.expr.behind = append(r.expr.behind, Set{})
	for label := labels.From; label < labels.To; label++ {
		r.expr.taking[label] = r.expr.taking[label].Or(place)
	}
	return part{first: place, last: place}
}

// joined sets one part behind the other.
func (r *reader) joined(x, y part) part {
	r.link(x.last, y.first)
	both := part{first: x.first, last: y.last, empty: x.empty && y.empty}
	if x.empty {
		both.first = both.first.Or(y.first)
	}
	if y.empty {
		both.last = both.last.Or(x.last)
	}
	return both
}

// starred sets a part behind itself.
func (r *reader) starred(x part) part {
	r.link(x.last, x.first)
	x.empty = true
	return x
}

func (r *reader) link(from, to Set) {
	for place := range from.places() {
		r.expr.behind[place] = r.expr.behind[place].Or(to)
	}
}
