package trellis_test

import (
	"math/rand"
	"slices"
	"strings"
	"testing"

	"trellis/api"
	"trellis/trellis"
)

// wantBack opens what Build gave, and builds what Open tells (P9).
func wantBack(t *testing.T, nodes, labels int, edges []api.Edge) {
	t.Helper()
	image := build(t, nodes, labels, edges)
	g := open(t, image)
	wantGraph(t, g, nodes, labels, byKey(edges))
	if build(t, g.Size().Nodes, g.Size().Labels, g.Edges()) != image {
		t.Fatal("P9: Build of what Open tells gives other bytes")
	}
}

func TestOpenBack(t *testing.T) {
	r := rand.New(rand.NewSource(21))
	for range 300 {
		nodes, labels := 1+r.Intn(40), 1+r.Intn(26)
		wantBack(t, nodes, labels, drawEdges(r, nodes, labels, r.Intn(150)))
	}
	for _, nodes := range []int{1, 2, 3, 4, 5, 1982, 1983, 8192, 8193, 10000} {
		for _, labels := range []int{1, 2, 3, 16, 17, 26} {
			wantBack(t, nodes, labels, nil)
			wantBack(t, nodes, labels, []api.Edge{edge(nodes-1, labels-1, nodes-1)})
			wantBack(t, nodes, labels, drawEdges(r, nodes, labels, 100))
		}
	}
	wantBack(t, 10000, 26, manyEdges(10000, 26, 20000))
	wantBack(t, 10000, 26, drawEdges(r, 10000, 26, 20000))
	wantBack(t, 28, 26, allEdges(28, 26)[:20000])
	wantBack(t, 142, 1, allEdges(142, 1)[:20000])
}

// All graphs of a few nodes: each is told back, and no two are written the
// same (P9).
func TestOpenAllSmall(t *testing.T) {
	seen := map[string]bool{}
	for _, c := range []struct{ nodes, labels int }{{1, 1}, {1, 2}, {1, 3}, {2, 1}, {2, 2}, {3, 1}} {
		all := allEdges(c.nodes, c.labels)
		for set := range 1 << len(all) {
			var edges []api.Edge
			for i, e := range all {
				if set>>i&1 == 1 {
					edges = append(edges, e)
				}
			}
			image := build(t, c.nodes, c.labels, edges)
			if seen[image] {
				t.Fatalf("P9: another graph is written as %v", edges)
			}
			seen[image] = true
			wantGraph(t, open(t, image), c.nodes, c.labels, edges)
		}
	}
}

func TestOpenSize(t *testing.T) {
	good := build(t, 2000, 2, []api.Edge{edge(5, 1, 7)})
	if len(good) != 512 || api.PageSize != 256 || api.MaxPages != 1000 {
		t.Fatalf("%d bytes, pages of %d, at most %d", len(good), api.PageSize, api.MaxPages)
	}
	for _, length := range []int{0, 1, 2, 4, 252, 255, 257, 300, 508, 511} {
		wantNoGraph(t, "cut", good[:length], api.ErrSize)
	}
	for _, more := range []string{"\x00", "x", strings.Repeat("\x00", 255), good[:255]} {
		wantNoGraph(t, "longer", good+more, api.ErrSize)
		wantNoGraph(t, "a wrong sum too", "x"+good[1:]+more, api.ErrSize)
	}
	for _, b := range []string{"\x00", "\xff"} {
		wantNoGraph(t, "1001 pages", strings.Repeat(b, 256*1001), api.ErrSize)
		wantNoGraph(t, "1000 pages and a byte", strings.Repeat(b, 256*1000+1), api.ErrSize)
		wantNoGraph(t, "1000 pages", strings.Repeat(b, 256*1000), api.ErrCorrupt)
	}
	empty := build(t, 1, 1, nil)
	wantNoGraph(t, "1001 pages, their sums right", sealedPages(make([]byte, 252*1001)), api.ErrSize)
	wantNoGraph(t, "1000 pages, their sums right", sealedPages(make([]byte, 252*1000)), api.ErrShape)
	wantNoGraph(t, "1000 pages of a small graph", sealedPages(append(plainContent(empty), make([]byte, 252*999)...)), api.ErrShape)
}

// threePages is a graph of three pages, which are all different.
func threePages(t *testing.T) string {
	r := rand.New(rand.NewSource(22))
	image := build(t, 60, 5, drawEdges(r, 60, 5, 450))
	if len(image) != 3*256 {
		t.Fatalf("%d bytes, want three pages", len(image))
	}
	return image
}

func TestOpenCorrupt(t *testing.T) {
	image := threePages(t)
	a, b, c := image[:256], image[256:512], image[512:]
	for _, wrong := range []string{b, c, a + a, b + a, a + c, a + c + b, c + b + a, b + a + c, a + b + c + c, a + b + a} {
		wantNoGraph(t, "pages at wrong places", wrong, api.ErrCorrupt)
	}
	one := build(t, 1, 1, nil)
	wantNoGraph(t, "a page twice", one+one, api.ErrCorrupt)
	for at := range image {
		for _, turn := range []byte{1, 128, 255, byte(1 + at%255)} {
			wrong := []byte(image)
			wrong[at] ^= turn
			wantNoGraph(t, "a wrong byte", string(wrong), api.ErrCorrupt)
		}
	}
}

// A wrong sum is told ahead of a wrong shape, on whichever page it is.
func TestOpenCorruptFirst(t *testing.T) {
	for _, pages := range []int{1, 2, 3, 50, 1000} {
		for _, b := range []byte{0, 255} {
			image := []byte(sealedPages([]byte(strings.Repeat(string([]byte{b}), 252*pages))))
			wantNoGraph(t, "all sums right", string(image), api.ErrShape)
			for _, page := range []int{0, pages / 2, pages - 1} {
				image[256*page+255] ^= 1
				wantNoGraph(t, "a wrong sum", string(image), api.ErrCorrupt)
				image[256*page+255] ^= 1
			}
		}
	}
}

// flip turns those bits of a page that a mask has, from a place on.
func flip(image []byte, page, at int, mask uint32) {
	for k := range 32 {
		if mask>>k&1 == 1 {
			image[256*page+(at+k)/8] ^= 128 >> ((at + k) % 8)
		}
	}
}

func TestOpenBursts(t *testing.T) {
	r := rand.New(rand.NewSource(23))
	small, large := []byte(build(t, 2, 1, []api.Edge{edge(0, 0, 1)})), []byte(threePages(t))
	for _, image := range [][]byte{small, large} {
		for page := range len(image) / 256 {
			for at := range 2048 - 31 {
				for _, mask := range []uint32{1, 1 << 31, 1<<31 | 1, 1<<32 - 1, 79764919, r.Uint32() | 1} {
					flip(image, page, at, mask)
					wantNoGraph(t, "bits that are others", string(image), api.ErrCorrupt)
					flip(image, page, at, mask)
				}
			}
		}
		open(t, string(image))
	}
}

// wantAsRead holds Open of a text of bits, laid into pages whose sums are
// right, against the plain reader.
func wantAsRead(t *testing.T, text string) bool {
	t.Helper()
	image := plainPages(text)
	nodes, labels, edges, is := plainRead(plainBits(image))
	if !is {
		wantNoGraph(t, text[:min(len(text), 200)], image, api.ErrShape)
		return false
	}
	g := open(t, image)
	wantGraph(t, g, nodes, labels, edges)
	if build(t, nodes, labels, edges) != image {
		t.Fatal("P9: Build of what Open tells gives other bytes")
	}
	return true
}

func turned(text string, at int) string {
	return text[:at] + string(rune('0'+'1'-text[at])) + text[at+1:]
}

// Each bit of a text is turned, and two at a time: some are then other graphs,
// most are none.
func TestOpenTurnedBits(t *testing.T) {
	r := rand.New(rand.NewSource(24))
	graphs, none := 0, 0
	look := func(text string) {
		if wantAsRead(t, text) {
			graphs++
		} else {
			none++
		}
	}
	for range 40 {
		nodes, labels := 1+r.Intn(6), 1+r.Intn(5)
		text := plainText(nodes, labels, byKey(drawEdges(r, nodes, labels, r.Intn(8)))) + strings.Repeat("0", 20)
		for at := range text {
			look(turned(text, at))
			look(turned(turned(text, at), r.Intn(len(text))))
			look(turned(turned(text, at), min(at+1, len(text)-1)))
		}
		look(text + strings.Repeat("0", 2016-len(text)-1) + "1")
	}
	if graphs < 100 || none < 100 {
		t.Fatalf("%d graphs, %d that are none: this tests little", graphs, none)
	}
}

// Headers as they come, with bits as they come behind them.
func TestOpenDrawnBits(t *testing.T) {
	r := rand.New(rand.NewSource(25))
	graphs := 0
	for range 20000 {
		text := plainHeader(r.Intn(5), r.Intn(4), r.Intn(4))
		for range r.Intn(14) {
			text += string(byte('0' + r.Intn(2)))
		}
		if wantAsRead(t, text) {
			graphs++
		}
	}
	if graphs < 100 {
		t.Fatalf("%d graphs: this tests little", graphs)
	}
	for range 300 {
		content := make([]byte, 252*(1+r.Intn(3)))
		r.Read(content)
		wantNoGraph(t, "bytes as they come", sealedPages(content), api.ErrShape)
	}
}

func TestOpenWrongSizes(t *testing.T) {
	for nodes := range 1 << 14 {
		if nodes%251 == 0 || nodes < 3 || nodes > 16380 || nodes > 9995 && nodes < 10005 {
			is := wantAsRead(t, plainHeader(nodes, 1, 0)+strings.Repeat("0", nodes))
			if want := nodes >= 1 && nodes <= 10000; is != want {
				t.Fatalf("%d nodes: %v, want %v", nodes, is, want)
			}
		}
	}
	for labels := range 1 << 5 {
		is := wantAsRead(t, plainText(3, labels, []api.Edge{edge(1, 0, 2)}))
		if want := labels >= 1 && labels <= 26; is != want {
			t.Fatalf("%d labels: %v, want %v", labels, is, want)
		}
	}
	for _, count := range []int{19999, 20000, 20001, 20002, 32767} {
		edges := manyEdges(10000, 26, count)
		is := wantAsRead(t, plainText(10000, 26, edges))
		if len(edges) != count || is != (count <= 20000) {
			t.Fatalf("%d edges: %v", count, is)
		}
	}
	wantNoGraph(t, "too many nodes", plainPages(plainText(10001, 26, []api.Edge{edge(10000, 3, 10000)})), api.ErrShape)
}

func TestOpenWrongShapes(t *testing.T) {
	good := []api.Edge{edge(0, 0, 1), edge(0, 1, 0), edge(0, 1, 1), edge(2, 2, 0)}
	if !wantAsRead(t, plainText(3, 3, good)) {
		t.Fatal("a graph is refused")
	}
	for why, edges := range map[string][]api.Edge{
		"targets not in order": {good[0], good[2], good[1], good[3]},
		"labels not in order":  {good[1], good[0], good[2], good[3]},
		"one twice":            {good[0], good[1], good[1], good[3]},
		"the last twice":       {good[0], good[1], good[2], good[3], good[3]},
		"no such label":        {good[0], good[1], good[2], edge(2, 3, 0)},
		"no such node":         {good[0], good[1], good[2], edge(2, 2, 3)},
		"no such node within":  {good[0], edge(0, 1, 3), edge(1, 1, 1), good[3]},
	} {
		wantNoGraph(t, why, plainPages(plainText(3, 3, edges)), api.ErrShape)
	}
	behind := plainBehind(3, 3, good)
	for count := range 40 {
		image := plainPages(plainHeader(3, 3, count) + behind)
		if count != len(good) {
			wantNoGraph(t, "another number of edges", image, api.ErrShape)
		}
	}
	// An edge behind the last node's end, or fewer ends than nodes.
	for _, text := range []string{
		plainHeader(1, 1, 1) + "01", plainHeader(2, 1, 1) + "0010", plainHeader(2, 1, 1) + "001",
		plainHeader(1, 1, 2) + "110", plainHeader(1, 1, 2) + "101", plainHeader(1, 1, 0) + "10", plainHeader(1, 1, 1) + "0",
		plainHeader(1, 2, 1) + "1101", plainHeader(5, 3, 9) + strings.Repeat("1", 1900),
	} {
		wantNoGraph(t, text, plainPages(text), api.ErrShape)
	}
}

// Pages that are left out or added, all sums right.
func TestOpenWrongPages(t *testing.T) {
	r := rand.New(rand.NewSource(26))
	for _, image := range []string{
		build(t, 1, 1, nil), build(t, 1982, 1, nil), build(t, 1983, 1, nil), build(t, 10000, 26, nil),
		threePages(t), build(t, 10000, 26, drawEdges(r, 10000, 26, 20000)),
	} {
		content := plainContent(image)
		for page := range len(content) / 252 {
			rest := slices.Delete(slices.Clone(content), page*252, page*252+252)
			if len(rest) > 0 && page%20 < 2 {
				wantNoGraph(t, "a page left out", sealedPages(rest), api.ErrShape)
			}
			if page > 0 && page%20 < 2 {
				wantNoGraph(t, "the first pages only", sealedPages(content[:page*252]), api.ErrShape)
			}
		}
		for _, more := range []int{1, 2, 700} {
			wantNoGraph(t, "pages of zeros behind", sealedPages(append(slices.Clone(content), make([]byte, 252*more)...)), api.ErrShape)
		}
		if content[len(content)-1]&1 == 0 {
			content[len(content)-1] |= 1
			wantNoGraph(t, "the last bit", sealedPages(content), api.ErrShape)
		}
	}
}

// Ones without an end: as many as there is room for, and a size that says so.
func TestOpenOnes(t *testing.T) {
	for _, pages := range []int{1, 21, 1000} {
		for _, count := range []int{0, 1, 20000, 32767} {
			text := plainHeader(10000, 26, count)
			text += strings.Repeat("1", 2016*pages-len(text))
			wantNoGraph(t, "ones only", plainPages(text), api.ErrShape)
		}
	}
}

// What Open answers hangs on nothing that was asked ahead of it (P2).
func TestOpenInTurns(t *testing.T) {
	r := rand.New(rand.NewSource(27))
	lists := [][]api.Edge{byKey(drawEdges(r, 9, 3, 30)), byKey(drawEdges(r, 9, 3, 30))}
	images := []string{build(t, 9, 3, lists[0]), build(t, 9, 3, lists[1])}
	graphs := []*trellis.Graph{open(t, images[0]), open(t, images[1])}
	for range 50 {
		for i, g := range graphs {
			wantNoGraph(t, "cut", images[i][:255], api.ErrSize)
			wantGraph(t, g, 9, 3, lists[i])
			wantGraph(t, open(t, images[i]), 9, 3, lists[i])
		}
	}
}
