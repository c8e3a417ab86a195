package trellis_test

import (
	"math/rand"
	"regexp"
	"slices"
	"strings"
	"testing"

	"trellis/api"
	"trellis/trellis"
)

func wantReach(t *testing.T, g *trellis.Graph, u int, query string, want ...int) {
	t.Helper()
	if nodes, e := g.Reach(u, query); !slices.Equal(nodes, want) || e != api.OK {
		t.Fatalf("Reach(%d, %q) = %v, %d, want %v", u, query, nodes, e, want)
	}
}

func wantNoReach(t *testing.T, g *trellis.Graph, u int, query string, want api.Errno) {
	t.Helper()
	if nodes, e := g.Reach(u, query); len(nodes) != 0 || e != want {
		t.Fatalf("Reach(%d, %q) = %v, %d, want nothing, %d", u, query, nodes, e, want)
	}
}

// upTo gives the numbers from one on, up to but without the other.
func upTo(from, to int) []int {
	var numbers []int
	for i := from; i < to; i++ {
		numbers = append(numbers, i)
	}
	return numbers
}

func exampleGraph(t *testing.T) *trellis.Graph {
	t.Helper()
	return graphOf(t, 4, 2, []api.Edge{edge(0, 0, 1), edge(1, 1, 2), edge(2, 0, 1), edge(1, 0, 3)})
}

func TestReachExample(t *testing.T) {
	g := exampleGraph(t)
	wantReach(t, g, 0, "a(ba)*", 1)
	wantReach(t, g, 0, "a(ba)*a", 3)
	wantReach(t, g, 0, ".*", 0, 1, 2, 3)
	wantReach(t, g, 2, "", 2)
	wantNoReach(t, g, 0, "c", api.ErrQuery)
	wantNoReach(t, g, 0, "*", api.ErrQuery)
}

// A tree of texts: each text of the labels a and b, up to a length, leads from
// the node 0 to a node of its own. So where an expression leads from there is
// which of these texts are its own.
func textTree(t *testing.T, length int) (*trellis.Graph, []string) {
	t.Helper()
	texts := []string{""}
	var edges []api.Edge
	for at := 0; len(texts[at]) < length; at++ {
		for label, letter := range []string{"a", "b"} {
			edges = append(edges, edge(at, label, len(texts)))
			texts = append(texts, texts[at]+letter)
		}
	}
	return graphOf(t, len(texts), 2, edges), texts
}

// plainIsQuery says what an expression over a and b is without reading it: few
// bytes, brackets that fit, and stars behind what they may stand behind.
func plainIsQuery(query string) bool {
	if len(query) > 200 {
		return false
	}
	open := 0
	for i := range len(query) {
		switch query[i] {
		case '(':
			open++
		case ')':
			open--
		case '*':
			if i == 0 || !strings.ContainsRune("ab.)*", rune(query[i-1])) {
				return false
			}
		case 'a', 'b', '.', '|':
		default:
			return false
		}
		if open < 0 {
			return false
		}
	}
	return open == 0
}

// libraryQuery is the library's expression that matches the same texts. It
// takes no star behind a star, which adds nothing.
func libraryQuery(t *testing.T, query string) *regexp.Regexp {
	t.Helper()
	single := regexp.MustCompile(`\*+`).ReplaceAllString(query, "*")
	match, err := regexp.Compile("^(?:" + single + ")$")
	if err != nil {
		t.Fatalf("the library on %q: %v", query, err)
	}
	return match
}

// wantTexts holds one query against the library, at a tree of texts.
func wantTexts(t *testing.T, g *trellis.Graph, texts []string, query string) {
	t.Helper()
	if !plainIsQuery(query) {
		wantNoReach(t, g, 0, query, api.ErrQuery)
		return
	}
	match := libraryQuery(t, query)
	var want []int
	for v, text := range texts {
		if match.MatchString(text) {
			want = append(want, v)
		}
	}
	wantReach(t, g, 0, query, want...)
}

func TestReachAllShort(t *testing.T) {
	g, texts := textTree(t, 4)
	queries := []string{""}
	for range 6 {
		var longer []string
		for _, query := range queries {
			wantTexts(t, g, texts, query)
			for _, letter := range "ab.|*()c" {
				longer = append(longer, query+string(letter))
			}
		}
		queries = longer
	}
}

func TestReachDrawnTexts(t *testing.T) {
	g, texts := textTree(t, 6)
	r := rand.New(rand.NewSource(41))
	for range 3000 {
		query, _ := drawQuery(r, plainGraph{labels: 2}, 5)
		wantTexts(t, g, texts, query.text)
		wrong := []byte(query.text + "a")
		wrong[r.Intn(len(wrong))] = "ab.|*()c"[r.Intn(8)]
		wantTexts(t, g, texts, string(wrong))
	}
}

// relation tells for each node to which nodes it leads, a bit for each.
type relation []uint64

type plainGraph struct {
	nodes, labels int
	edges         []api.Edge
}

func (p plainGraph) self() relation {
	out := make(relation, p.nodes)
	for u := range out {
		out[u] = 1 << u
	}
	return out
}

func (p plainGraph) along(holds func(label int) bool) relation {
	out := make(relation, p.nodes)
	for _, e := range p.edges {
		if holds(e.Label) {
			out[e.From] |= 1 << e.To
		}
	}
	return out
}

func (x relation) or(y relation) relation {
	out := slices.Clone(x)
	for u := range out {
		out[u] |= y[u]
	}
	return out
}

func (x relation) then(y relation) relation {
	out := make(relation, len(x))
	for u := range x {
		for v := range y {
			if x[u]>>v&1 == 1 {
				out[u] |= y[v]
			}
		}
	}
	return out
}

// often goes on until it finds nothing more.
func (p plainGraph) often(x relation) relation {
	out := p.self()
	for {
		more := out.or(out.then(x))
		if slices.Equal(more, out) {
			return out
		}
		out = more
	}
}

// How firmly what stands outermost in a query binds.
const (
	asChoice = iota
	asRow
	asPiece
)

type plainQuery struct {
	text  string
	binds int
}

// within gives the text, in brackets if it binds less firmly than it must, and
// now and then without need.
func (q plainQuery) within(r *rand.Rand, binds int) string {
	if q.binds < binds || r.Intn(8) == 0 {
		return "(" + q.text + ")"
	}
	return q.text
}

// drawQuery draws an expression, and tells where it leads: worked out beside
// the text, not from it.
func drawQuery(r *rand.Rand, p plainGraph, depth int) (plainQuery, relation) {
	kind := r.Intn(8)
	if depth == 0 {
		kind = r.Intn(4)
	}
	switch kind {
	case 0:
		return plainQuery{"", asRow}, p.self()
	case 1:
		return plainQuery{".", asPiece}, p.along(func(int) bool { return true })
	case 2, 3:
		label := r.Intn(p.labels)
		return plainQuery{string(rune('a' + label)), asPiece}, p.along(func(l int) bool { return l == label })
	case 4:
		x, to := drawQuery(r, p, depth-1)
		text := x.within(r, asPiece)
		return plainQuery{text + strings.Repeat("*", 1+r.Intn(2)), asPiece}, p.often(to)
	case 5:
		x, to := drawQuery(r, p, depth-1)
		y, further := drawQuery(r, p, depth-1)
		return plainQuery{x.within(r, asChoice) + "|" + y.within(r, asChoice), asChoice}, to.or(further)
	default:
		x, to := drawQuery(r, p, depth-1)
		y, further := drawQuery(r, p, depth-1)
		return plainQuery{x.within(r, asRow) + y.within(r, asRow), asRow}, to.then(further)
	}
}

// Ways that go round, that meet, and that end.
func TestReachDrawn(t *testing.T) {
	r := rand.New(rand.NewSource(42))
	for range 400 {
		p := plainGraph{nodes: 1 + r.Intn(12), labels: 1 + r.Intn(4)}
		if r.Intn(10) == 0 {
			p.labels = 26
		}
		p.edges = drawEdges(r, p.nodes, p.labels, r.Intn(3*p.nodes))
		g := graphOf(t, p.nodes, p.labels, p.edges)
		for range 30 {
			query, to := drawQuery(r, p, 5)
			if len(query.text) > api.MaxQuery {
				continue
			}
			for u := range p.nodes {
				var want []int
				for v := range p.nodes {
					if to[u]>>v&1 == 1 {
						want = append(want, v)
					}
				}
				wantReach(t, g, u, query.text, want...)
			}
		}
	}
}

// What binds first, told apart by where the other reading would lead.
func TestReachBinds(t *testing.T) {
	g, texts := textTree(t, 3)
	for _, c := range []struct{ query, is string }{
		{"ab*", "a ab abb"}, {"(ab)*", " ab"}, {"a|b*", " a b bb bbb"}, {"(a|b)*", strings.Join(texts, " ")},
		{"ab|ba", "ab ba"}, {"a(b|b)a", "aba"}, {"a|ba|", " a ba"}, {"|", ""}, {"a|", " a"}, {"|a", " a"}, {"a||b", " a b"},
		{"(|a)b", "b ab"}, {"()a()", "a"}, {"()*", ""}, {"(|)*", ""}, {"((a)|b)b", "ab bb"}, {"..", "aa ab ba bb"},
		{"a**", " a aa aaa"}, {"(a*)*", " a aa aaa"}, {"a*a", "a aa aaa"}, {"a*b*", " a b aa ab bb aaa aab abb bbb"},
	} {
		var want []int
		for v, text := range texts {
			if slices.Contains(strings.Split(c.is, " "), text) {
				want = append(want, v)
			}
		}
		wantReach(t, g, 0, c.query, want...)
	}
}

// Of all bytes only labels of the graph and the point stand alone.
func TestReachEachByte(t *testing.T) {
	for _, labels := range []int{1, 2, 25, 26} {
		g := graphOf(t, 2, labels, allEdges(2, labels))
		for b := range 256 {
			letter := string([]byte{byte(b)})
			is := letter == "." || b >= 'a' && b < 'a'+labels
			for _, query := range []string{letter, letter + "a", "a" + letter + "a", "(" + letter + ")", "a|" + letter + letter} {
				switch {
				case is:
					wantReach(t, g, 0, query, 0, 1)
				case !strings.ContainsRune("|*()", rune(b)):
					wantNoReach(t, g, 0, query, api.ErrQuery)
				}
			}
		}
	}
}

func TestReachEachLabel(t *testing.T) {
	var edges []api.Edge
	for label := range 26 {
		edges = append(edges, edge(0, label, label+1))
	}
	g := graphOf(t, 27, 26, edges)
	for label := range 26 {
		wantReach(t, g, 0, string(rune('a'+label)), label+1)
	}
	wantReach(t, g, 0, ".", upTo(1, 27)...)
	wantReach(t, g, 0, "a|m|z", 1, 13, 26)
	for _, query := range []string{"{", "`", "A", "Z", "é", "á", "\xe1", "a\u0300", "а"} {
		wantNoReach(t, g, 0, query, api.ErrQuery)
	}
}

func TestReachWrongQueries(t *testing.T) {
	g := exampleGraph(t)
	for _, query := range []string{
		"*", "**", "*a", "(*)", "(*a)", "a|*", "|*", "a(*b)", "(a|*)b", "(", ")", "(a", "a)", ")(", "())", "(()", "a)(b", "(a))", "((a)", "(a|b",
		" ", "a ", " a", "a b", "a\n", "\x00", "a\x00", "a+", "a?", "[a]", "a{2}", "^a", "a$", "\\a", "c", "abc", "a|c", "(c)*", "z", "A", "0", "-1",
	} {
		for u := range 4 {
			wantNoReach(t, g, u, query, api.ErrQuery)
		}
	}
}

// chain is a graph whose way from the node 0 on is as long as may be; it has
// another label beside the one of the way.
func chain(t *testing.T, nodes int) *trellis.Graph {
	t.Helper()
	var edges []api.Edge
	for u := range nodes - 1 {
		edges = append(edges, edge(u, 0, u+1))
	}
	return graphOf(t, nodes, 2, edges)
}

// Queries of each length up to the longest, with a place for each of its
// bytes, and with each of these the last one.
func TestReachLengths(t *testing.T) {
	g := chain(t, 410)
	for length := range api.MaxQuery + 1 {
		wantReach(t, g, 3, strings.Repeat("a", length), 3+length)
		wantReach(t, g, 3, strings.Repeat(".", length), 3+length)
		if length >= 4 {
			wantReach(t, g, 3, "("+strings.Repeat("a", length-3)+")*", every(length-3, 3, 410)...)
			wantReach(t, g, 3, strings.Repeat("a", length-1)+"b")
			wantReach(t, g, 3, "b|"+strings.Repeat("a", length-2), 1+length)
			wantReach(t, g, 3, strings.Repeat("a", length-2)+"|b", 1+length)
		}
		if length >= 2 && length%2 == 0 {
			wantReach(t, g, 3, strings.Repeat("a*", length/2), upTo(3, 410)...)
			wantReach(t, g, 3, strings.Repeat("a|", length/2), 3, 4)
		}
	}
}

func every(step, from, to int) []int {
	var numbers []int
	for i := from; i < to; i += step {
		numbers = append(numbers, i)
	}
	return numbers
}

func TestReachLongest(t *testing.T) {
	g := chain(t, 410)
	for _, c := range []struct {
		begin, again, end string
		times             int
		want              []int
	}{
		{"", "a", "", 200, []int{203}}, {"", "|", "", 200, []int{3}}, {"a", "*", "", 199, upTo(3, 410)},
		{strings.Repeat("(", 100), ")", "", 100, []int{3}}, {strings.Repeat("(", 66) + "a", "*)", "*", 66, upTo(3, 410)},
		{"", "()", "", 100, []int{3}}, {"", "()*", "aa", 66, []int{5}}, {"", "(|a)", "", 50, upTo(3, 54)}, {"", "(a|.)", "", 40, []int{43}},
	} {
		query := c.begin + strings.Repeat(c.again, c.times) + c.end
		if len(query) > 200 || len(query) < 199 {
			t.Fatalf("%d bytes: this tests something else", len(query))
		}
		wantReach(t, g, 3, query, c.want...)
	}
}

// What is too long is no expression, whatever it is.
func TestReachTooLong(t *testing.T) {
	g := chain(t, 410)
	for _, again := range []string{"a", ".", "|", "()", "a*", "(a)", "b", "z", "(", ")", "*", "\x00"} {
		for _, least := range []int{201, 202, 203, 256, 400, 1000, 1 << 20} {
			wantNoReach(t, g, 3, strings.Repeat(again, (least+len(again)-1)/len(again)), api.ErrQuery)
		}
	}
	wantNoReach(t, g, 3, "a"+strings.Repeat("*", 200), api.ErrQuery)
	wantNoReach(t, g, 3, strings.Repeat("(", 100)+"a"+strings.Repeat(")", 100), api.ErrQuery)
}

// That u is no node is named first.
func TestReachRange(t *testing.T) {
	for _, nodes := range []int{1, 4, 300} {
		g := chain(t, nodes)
		for _, u := range numbersAbout(nodes) {
			for _, query := range []string{"", "a", ".*", "*", "(", "c", "\x00", strings.Repeat("a", 201)} {
				if u < 0 || u >= nodes {
					wantNoReach(t, g, u, query, api.ErrRange)
				}
			}
			if u >= 0 && u < nodes {
				wantReach(t, g, u, "", u)
				wantReach(t, g, u, "a*", upTo(u, nodes)...)
				wantNoReach(t, g, u, "*", api.ErrQuery)
			}
		}
	}
}

// A way of no edges leads to where it begins, be there edges or not.
func TestReachNoEdges(t *testing.T) {
	g := graphOf(t, 3, 2, nil)
	for u := range 3 {
		for _, query := range []string{"", "()", "|", "a*", "a|", "(a|b)*", ".*.*", "()*"} {
			wantReach(t, g, u, query, u)
		}
		for _, query := range []string{"a", ".", "a*b", "a|b", ".*a"} {
			wantReach(t, g, u, query)
		}
	}
}

// A way goes through a node as often as its labels need.
func TestReachRoundAndRound(t *testing.T) {
	g := graphOf(t, 2, 2, []api.Edge{edge(0, 0, 0), edge(0, 1, 1)})
	for times := range 199 {
		wantReach(t, g, 0, strings.Repeat("a", times)+"b", 1)
	}
	wantReach(t, g, 0, "a*", 0)
	wantReach(t, g, 0, "a*b", 1)
	wantReach(t, g, 0, "a*bb")
	// A ring in which every third edge is b.
	var edges []api.Edge
	for u := range 21 {
		edges = append(edges, edge(u, u%3/2, (u+1)%21))
	}
	g = graphOf(t, 21, 2, edges)
	wantReach(t, g, 0, "(aab)*", every(3, 0, 21)...)
	wantReach(t, g, 0, "(.......)*", 0, 7, 14)
	wantReach(t, g, 0, "(.......)*aab", 3)
	wantReach(t, g, 0, "(.......)*ab", 9)
	wantReach(t, g, 0, "(..........)*", upTo(0, 21)...)
}

func TestReachMost(t *testing.T) {
	var edges []api.Edge
	for u := range 10000 {
		edges = append(edges, edge(u, 0, (u+1)%10000), edge(u, 1, (u+2)%10000))
	}
	ring := graphOf(t, 10000, 26, edges)
	wantReach(t, ring, 0, "", 0)
	wantReach(t, ring, 9999, strings.Repeat("a", 200), 199)
	wantReach(t, ring, 9, strings.Repeat("(a|b)", 40), upTo(49, 90)...)
	wantReach(t, ring, 9, strings.Repeat("c*", 100), 9)
	wantReach(t, ring, 7, "(bb)*", every(4, 3, 10000)...)
	wantReach(t, ring, 0, "("+strings.Repeat(".", 197)+")*", upTo(0, 10000)...)
	for _, query := range []string{".*", strings.Repeat("a*b*", 50), "(a*b*)*", strings.Repeat("(", 66) + "." + strings.Repeat("*)", 66), strings.Repeat(".*", 99) + "ab"} {
		wantReach(t, ring, 5000, query, upTo(0, 10000)...)
	}
}

// Many edges at one node, and all edges between few.
func TestReachUneven(t *testing.T) {
	var edges []api.Edge
	for v := range 9999 {
		edges = append(edges, edge(0, v%26, v+1), edge(v+1, (v+1)%26, 0))
	}
	star := graphOf(t, 10000, 26, edges)
	wantReach(t, star, 0, "z", every(26, 26, 10000)...)
	wantReach(t, star, 0, "ab", 0)
	wantReach(t, star, 0, "ac")
	wantReach(t, star, 0, "(ab|z)*d", every(26, 4, 10000)...)
	wantReach(t, star, 0, ".*", upTo(0, 10000)...)
	wantReach(t, star, 77, "(..)*", upTo(1, 10000)...)
	dense := graphOf(t, 28, 26, allEdges(28, 26)[:20000])
	for _, query := range []string{".", "z", "(a|z)*m", strings.Repeat("q", 200), strings.Repeat(".*", 100)} {
		wantReach(t, dense, 5, query, upTo(0, 28)...)
	}
}

// Lists that come out are the caller's, their spare room too (P2).
func TestReachListsAreTheCallers(t *testing.T) {
	edges := byKey(drawEdges(rand.New(rand.NewSource(43)), 50, 3, 300))
	g := graphOf(t, 50, 3, edges)
	for _, query := range []string{"", "a*", ".*", "ab|c", "(a|b)*c"} {
		first, _ := g.Reach(2, query)
		second, _ := g.Reach(2, query)
		want := slices.Clone(second)
		if len(first) == 0 {
			t.Fatal("no nodes: this tests nothing")
		}
		room := first[:cap(first)]
		for i := range room {
			room[i] = -9
		}
		if !slices.Equal(second, want) {
			t.Fatalf("Reach(2, %q): a list from ahead became %v", query, second)
		}
		wantReach(t, g, 2, query, want...)
		wantGraph(t, g, 50, 3, edges)
	}
}

// What was asked ahead, of this graph or another, changes no answer (P2).
func TestReachInTurns(t *testing.T) {
	g, other := exampleGraph(t), chain(t, 4)
	for range 3 {
		wantReach(t, g, 0, ".*", 0, 1, 2, 3)
		wantReach(t, g, 0, "a", 1)
		wantNoReach(t, g, 0, "(a", api.ErrQuery)
		wantReach(t, other, 0, "aa", 2)
		wantReach(t, g, 0, "aa", 3)
		wantNoReach(t, g, 4, "a", api.ErrRange)
		wantReach(t, other, 0, "b")
		wantReach(t, g, 3, "a*", 3)
	}
}
