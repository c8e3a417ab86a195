// Package expr: expressions, read once, and then followed label by label.
package expr

// Expr is an expression. Each of its letters and points has a place: its
// number among them, from 1 on. Whoever follows a text of labels stands at all
// places that may have taken the last label of it, or, ahead of the first one,
// at the place 0. So there is no more to keep of a text than a set of places,
// and a star that may go on for ever is a place that comes behind itself.
type Expr struct {
	// For each place, those that may take the label behind it.
	behind []Set
	// For each label, the places that take it.
	taking []Set
	// The places at which a text may end.
	ends Set
}

// Start gives the places at which the empty text stands.
func (x *Expr) Start() Set { return only(0) }

// Behind gives all places that may take the label behind one of a set.
func (x *Expr) Behind(at Set) Set {
	var behind Set
	for place := range at.places() {
		behind = behind.Or(x.behind[place])
	}
	return behind
}

// Taking gives the places that take a label; it must be one that there is.
func (x *Expr) Taking(label int) Set { return x.taking[label] }

// IsText tells whether a text that stands at these places is one of the
// expression.
func (x *Expr) IsText(at Set) bool { return !at.And(x.ends).IsEmpty() }
