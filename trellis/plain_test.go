package trellis_test

import (
	"fmt"
	"hash/crc32"
	"math/bits"
	"math/rand"
	"slices"
	"strings"
	"testing"

	"trellis/api"
	"trellis/trellis"
)

// What the document says, done as plainly as may be: the tests hold the
// program against it.

func plainWidth(k int) int {
	width := 0
	for 1<<width < k {
		width++
	}
	return width
}

func plainNumber(number, width int) string {
	if width == 0 {
		return ""
	}
	return fmt.Sprintf("%0*b", width, number)
}

func plainHeader(nodes, labels, edges int) string {
	return fmt.Sprintf("%014b%05b%015b", nodes, labels, edges)
}

// plainBehind writes what is behind the header; the edges as they are told.
func plainBehind(nodes, labels int, edges []api.Edge) string {
	from := make([]int, nodes)
	var label, to strings.Builder
	for _, e := range edges {
		from[e.From]++
		label.WriteString(plainNumber(e.Label, plainWidth(labels)))
		to.WriteString(plainNumber(e.To, plainWidth(nodes)))
	}
	var degrees strings.Builder
	for _, count := range from {
		degrees.WriteString(strings.Repeat("1", count) + "0")
	}
	return degrees.String() + label.String() + to.String()
}

func plainText(nodes, labels int, edges []api.Edge) string {
	return plainHeader(nodes, labels, len(edges)) + plainBehind(nodes, labels, edges)
}

// plainPages gives pages whose sums are right.
func plainPages(text string) string {
	if over := len(text) % 2016; over != 0 {
		text += strings.Repeat("0", 2016-over)
	}
	content := make([]byte, len(text)/8)
	for i := range text {
		content[i/8] = content[i/8]<<1 | (text[i] - '0')
	}
	return sealedPages(content)
}

func sealedPages(content []byte) string {
	var image []byte
	number := uint32(0)
	for page := range slices.Chunk(content, 252) {
		sum := plainSum(append(bytesOf(number), page...))
		image = append(append(image, page...), bytesOf(sum)...)
		number++
	}
	return string(image)
}

func bytesOf(n uint32) []byte {
	return []byte{byte(n >> 24), byte(n >> 16), byte(n >> 8), byte(n)}
}

// plainSum is the library's sum, which goes from the lowest bit on: turned
// round on both sides it is the document's.
func plainSum(page []byte) uint32 {
	turned := make([]byte, len(page))
	for i, b := range page {
		turned[i] = bits.Reverse8(b)
	}
	return bits.Reverse32(crc32.ChecksumIEEE(turned))
}

func plainContent(image string) []byte {
	var content []byte
	for page := range slices.Chunk([]byte(image), 256) {
		content = append(content, page[:252]...)
	}
	return content
}

func plainBits(image string) string {
	var text strings.Builder
	for _, b := range plainContent(image) {
		fmt.Fprintf(&text, "%08b", b)
	}
	return text.String()
}

func plainValue(text string) int {
	value := 0
	for i := range text {
		value = value*2 + int(text[i]-'0')
	}
	return value
}

// plainRead tells which graph is written in a text of whole pages, if any.
func plainRead(text string) (nodes, labels int, edges []api.Edge, is bool) {
	nodes, labels = plainValue(text[:14]), plainValue(text[14:19])
	count := plainValue(text[19:34])
	if nodes < 1 || nodes > 10000 || labels < 1 || labels > 26 || count > 20000 {
		return
	}
	forLabel, forNode := plainWidth(labels), plainWidth(nodes)
	length := 34 + nodes + count + count*forLabel + count*forNode
	if (length+2015)/2016 != len(text)/2016 || strings.Contains(text[length:], "1") {
		return
	}
	degrees, rest := text[34:34+nodes+count], text[34+nodes+count:length]
	if strings.Count(degrees, "1") != count || degrees[len(degrees)-1] != '0' {
		return
	}
	for u, run := range strings.Split(degrees[:len(degrees)-1], "0") {
		for range run {
			at := len(edges)
			label := plainValue(rest[at*forLabel : (at+1)*forLabel])
			to := plainValue(rest[count*forLabel+at*forNode : count*forLabel+(at+1)*forNode])
			edges = append(edges, api.Edge{From: u, Label: label, To: to})
		}
	}
	for i, e := range edges {
		if e.Label >= labels || e.To >= nodes || i > 0 && key(edges[i-1]) >= key(e) {
			return
		}
	}
	return nodes, labels, edges, true
}

// key is a number by which edges are in order.
func key(e api.Edge) int { return (e.From*32+e.Label)*20000 + e.To }

func byKey(edges []api.Edge) []api.Edge {
	keys := map[int]api.Edge{}
	for _, e := range edges {
		keys[key(e)] = e
	}
	var ordered []api.Edge
	for _, e := range keys {
		ordered = append(ordered, e)
	}
	slices.SortFunc(ordered, func(a, b api.Edge) int { return key(a) - key(b) })
	return ordered
}

func edge(from, label, to int) api.Edge {
	return api.Edge{From: from, Label: label, To: to}
}

func drawEdges(r *rand.Rand, nodes, labels, count int) []api.Edge {
	var edges []api.Edge
	for range count {
		edges = append(edges, edge(r.Intn(nodes), r.Intn(labels), r.Intn(nodes)))
	}
	return edges
}

// manyEdges are different edges, in order.
func manyEdges(nodes, labels, count int) []api.Edge {
	var edges []api.Edge
	for i := range count {
		u := i * nodes / count
		edges = append(edges, edge(u, i%labels, i%nodes))
	}
	return byKey(edges)
}

func build(t *testing.T, nodes, labels int, edges []api.Edge) string {
	t.Helper()
	image, e := trellis.Build(nodes, labels, edges)
	if e != api.OK || len(image) == 0 {
		t.Fatalf("Build(%d, %d, %d edges): %d bytes, error %d", nodes, labels, len(edges), len(image), e)
	}
	return image
}

func open(t *testing.T, image string) *trellis.Graph {
	t.Helper()
	g, e := trellis.Open(image)
	if g == nil || e != api.OK {
		t.Fatalf("Open of %d bytes: made %v, error %d", len(image), g != nil, e)
	}
	return g
}

func wantNoGraph(t *testing.T, why, image string, want api.Errno) {
	t.Helper()
	if g, e := trellis.Open(image); g != nil || e != want {
		t.Fatalf("Open, %s: made %v, error %d, want nil, %d", why, g != nil, e, want)
	}
}

// begin tells the first edges of a list, lest a failure takes pages to tell.
func begin(edges []api.Edge) string { return fmt.Sprintf("%.200s", fmt.Sprint(edges)) }

func wantEdges(t *testing.T, call string, got, want []api.Edge) {
	t.Helper()
	if !slices.Equal(got, want) {
		t.Fatalf("%s: %d edges %s, want %d edges %s", call, len(got), begin(got), len(want), begin(want))
	}
}

// wantGraph holds a graph against what it is to have.
func wantGraph(t *testing.T, g *trellis.Graph, nodes, labels int, edges []api.Edge) {
	t.Helper()
	if want := (api.Size{Nodes: nodes, Labels: labels, Edges: len(edges)}); g.Size() != want {
		t.Fatalf("Size = %v, want %v", g.Size(), want)
	}
	wantEdges(t, "Edges", g.Edges(), edges)
}
