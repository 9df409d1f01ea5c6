package sexpr_test

import (
	"strings"
	"testing"

	"telpher/api"
	"telpher/sexpr"
)

// checkRoundTrip checks P1.5 for valid nodes: each one's text is one equal node, and that node has the same text.
func checkRoundTrip(t *testing.T, nodes []sexpr.Node) {
	t.Helper()
	for _, n := range nodes {
		text, err := sexpr.Format(n)
		if err != api.OK || !sexpr.Valid(n) {
			t.Fatalf("Format(%v) = %q, %d", n, text, err)
		}
		back, fault := sexpr.Parse(text)
		if fault != (api.Fault{}) || len(back) != 1 || !sexpr.Equal(back[0], n) {
			t.Fatalf("Parse(Format(%v)) = %v, %v", n, back, fault)
		}
		again, err := sexpr.Format(back[0])
		if err != api.OK || again != text {
			t.Fatalf("the text of %v is %q and then %q", n, text, again)
		}
	}
}

func expectText(t *testing.T, n sexpr.Node, want string) {
	t.Helper()
	if text, err := sexpr.Format(n); err != api.OK || text != want || !sexpr.Valid(n) {
		t.Errorf("Format(%.60v) = %.60q, %d; want %.60q", n, text, err, want)
	}
}

func expectInvalid(t *testing.T, n sexpr.Node) {
	t.Helper()
	if text, err := sexpr.Format(n); err != api.ErrInvalid || text != "" || sexpr.Valid(n) {
		t.Errorf("Format(%.60v) = %.60q, %d; want ErrInvalid", n, text, err)
	}
}

// P1.3: the canonical text of valid nodes.
func TestFormat(t *testing.T) {
	expectText(t, word("a-Z_09", 5), "a-Z_09")
	expectText(t, word("-", -1), "-")
	expectText(t, quoted("", 0), `""`)
	expectText(t, quoted(`a "b" \ c;(`, 1<<40), `"a \"b\" \\ c;("`)
	expectText(t, list(3), "()")
	expectText(t, list(0, list(9), list(0), word("a", 0)), "(() () a)")
	expectText(t, list(0, word("f", 0), quoted("x y", 0), list(0, word("g", 0), word("1", 0))), `(f "x y" (g 1))`)
	expectText(t, sexpr.Node{Kind: sexpr.NodeList, Children: []sexpr.Node{}}, "()")

	nodes, _ := sexpr.Parse("( a\"b\"c;comment\n  (( ) d))")
	expectText(t, nodes[0], `(a "b" c (() d))`)
}

// P1.3: the exact limits of valid nodes.
func TestFormatLimits(t *testing.T) {
	longest := strings.Repeat("w", api.MaxWord)
	expectText(t, word(longest, 0), longest)
	expectInvalid(t, word(longest+"w", 0))
	value := strings.Repeat(`"`, api.MaxString)
	expectText(t, quoted(value, 0), `"`+strings.Repeat(`\"`, api.MaxString)+`"`)
	expectInvalid(t, quoted(value+"x", 0))

	open, shut := strings.Repeat("(", api.MaxNest), strings.Repeat(")", api.MaxNest)
	expectText(t, nest(api.MaxNest, word("a", 0)), open+"a"+shut)
	expectText(t, nest(api.MaxNest-1, list(0)), open+shut)
	expectInvalid(t, nest(api.MaxNest, list(0)))
	expectInvalid(t, nest(api.MaxNest+1, word("a", 0)))
	expectInvalid(t, list(0, word("a", 0), nest(api.MaxNest, quoted("", 0))))
}

// P1.3: which bytes words and strings may contain.
func TestValidBytes(t *testing.T) {
	for c := range 256 {
		b := string([]byte{byte(c)})
		for _, s := range []string{b, "a" + b, b + "a"} {
			if got, want := sexpr.Valid(word(s, 0)), strings.Contains(wordBytes, b); got != want {
				t.Errorf("a word %q: %v", s, got)
			}
			if got, want := sexpr.Valid(quoted(s, 0)), 32 <= c && c <= 126; got != want {
				t.Errorf("a string %q: %v", s, got)
			}
		}
	}
}

// P1.3: malformed nodes have no text.
func TestInvalidNodes(t *testing.T) {
	child := []sexpr.Node{word("a", 0)}
	for _, n := range []sexpr.Node{
		{},
		{Text: "a"},
		{Kind: -1, Text: "a"},
		{Kind: 4},
		{Kind: 1 << 40, Children: child},
		word("", 0),
		word("a b", 0),
		word("é", 0),
		{Kind: sexpr.NodeWord, Text: "a", Children: child},
		{Kind: sexpr.NodeString, Text: "a", Children: child},
		{Kind: sexpr.NodeList, Text: "a"},
		{Kind: sexpr.NodeList, Text: "a", Children: child},
	} {
		expectInvalid(t, n)
		expectInvalid(t, list(0, n))
		expectInvalid(t, list(0, word("a", 0), list(0, n), word("b", 0)))
	}
}

// P1.3: Equal compares everything but the offsets.
func TestEqual(t *testing.T) {
	build := func() sexpr.Node {
		return list(0, word("a", 1), list(3, quoted("b", 4), sexpr.Node{Kind: 7, Text: "c", Children: []sexpr.Node{list(9)}}))
	}
	moved := build()
	moved.Offset = 100
	moved.Children[1].Children[1].Children[0].Offset = -5
	if !sexpr.Equal(build(), build()) || !sexpr.Equal(build(), moved) || !sexpr.Equal(moved, build()) {
		t.Errorf("equal nodes are not equal")
	}
	for i, change := range []func(n *sexpr.Node){
		func(n *sexpr.Node) { n.Kind = 0 },
		func(n *sexpr.Node) { n.Text = "x" },
		func(n *sexpr.Node) { n.Children = nil },
		func(n *sexpr.Node) { n.Children = n.Children[:1] },
		func(n *sexpr.Node) { n.Children[0].Text = "A" },
		func(n *sexpr.Node) { n.Children[0].Kind = sexpr.NodeString },
		func(n *sexpr.Node) { n.Children[0], n.Children[1] = n.Children[1], n.Children[0] },
		func(n *sexpr.Node) { n.Children = append(n.Children, word("a", 0)) },
		func(n *sexpr.Node) { n.Children[1].Children[1].Kind = 8 },
		func(n *sexpr.Node) { n.Children[1].Children[1].Children[0].Text = "x" },
		func(n *sexpr.Node) { n.Children[1].Children[1].Children[0].Children = []sexpr.Node{{}} },
	} {
		n := build()
		change(&n)
		if sexpr.Equal(n, build()) || sexpr.Equal(build(), n) || !sexpr.Equal(n, n) {
			t.Errorf("change %d goes unnoticed", i)
		}
	}
	// Rule 3: a nil slice and an empty one are equal.
	if !sexpr.Equal(list(0), sexpr.Node{Kind: sexpr.NodeList, Children: []sexpr.Node{}}) {
		t.Errorf("a nil slice differs from an empty one")
	}
}

// P1.3: Count and Depth, for arbitrary nodes too.
func TestCountAndDepth(t *testing.T) {
	for i, c := range []struct {
		nodes        []sexpr.Node
		count, depth int
	}{
		{nil, 0, 0},
		{[]sexpr.Node{}, 0, 0},
		{[]sexpr.Node{word("a", 0), quoted("b", 0)}, 2, 0},
		{[]sexpr.Node{list(0)}, 1, 1},
		{[]sexpr.Node{list(0), list(0)}, 2, 1},
		{[]sexpr.Node{list(0, list(0), word("a", 0)), word("b", 0)}, 4, 2},
		{[]sexpr.Node{list(0), nest(2, list(0, word("a", 0))), list(0)}, 6, 3},
		{[]sexpr.Node{{}, {Kind: -3}}, 2, 0},
		{[]sexpr.Node{{Kind: 9, Children: []sexpr.Node{{}, list(0)}}}, 3, 1},
		{[]sexpr.Node{list(0, sexpr.Node{Kind: sexpr.NodeWord, Children: []sexpr.Node{list(0, word("a", 0))}})}, 4, 2},
		{[]sexpr.Node{nest(3*api.MaxNest, word("", 0))}, 3*api.MaxNest + 1, 3 * api.MaxNest},
	} {
		if count, depth := sexpr.Count(c.nodes), sexpr.Depth(c.nodes); count != c.count || depth != c.depth {
			t.Errorf("case %d: Count %d, Depth %d; want %d, %d", i, count, depth, c.count, c.depth)
		}
	}
}

// P0.1, rules 1 and 9: nodes nested 2^16 deep are no trouble.
func TestDeepNodes(t *testing.T) {
	const levels = 1<<16 - 1
	a, b := nest(levels, word("a", 0)), nest(levels, word("b", 0))
	if !sexpr.Equal(a, a) || sexpr.Equal(a, b) {
		t.Errorf("Equal of deep nodes")
	}
	if sexpr.Count([]sexpr.Node{a}) != levels+1 || sexpr.Depth([]sexpr.Node{a}) != levels {
		t.Errorf("Count %d, Depth %d", sexpr.Count([]sexpr.Node{a}), sexpr.Depth([]sexpr.Node{a}))
	}
	expectInvalid(t, a)
}

// P0.1, rule 2: no function changes its arguments.
func TestArgumentsAreKept(t *testing.T) {
	build := func() []sexpr.Node {
		return []sexpr.Node{list(3, word("a", 7), list(-1, quoted(`"`, 2))), word("", 4)}
	}
	nodes := build()
	for _, n := range nodes {
		sexpr.Valid(n)
		sexpr.Format(n)
		sexpr.Equal(n, nodes[0])
	}
	sexpr.Count(nodes)
	sexpr.Depth(nodes)
	if !same(nodes, build()) {
		t.Errorf("an argument changed: %v", nodes)
	}
}

// generator makes arbitrary valid nodes from a sequence of numbers that is the same in every run.
type generator struct{ state uint64 }

func (g *generator) below(n int) int {
	g.state = g.state*6364136223846793005 + 1442695040888963407
	return int(g.state >> 33 % uint64(n))
}

func (g *generator) node(room int) sexpr.Node {
	text := make([]byte, g.below(8))
	switch kind := 1 + g.below(3); {
	case kind == sexpr.NodeWord:
		text = append(text, 0)
		for i := range text {
			text[i] = wordBytes[g.below(len(wordBytes))]
		}
		return word(string(text), g.below(100))
	case kind == sexpr.NodeString || room == 0:
		for i := range text {
			text[i] = byte(32 + g.below(95))
			if g.below(4) == 0 {
				text[i] = "\"\\"[g.below(2)]
			}
		}
		return quoted(string(text), g.below(100))
	}
	l := list(g.below(100))
	for range g.below(5) {
		l.Children = append(l.Children, g.node(room-1))
	}
	return l
}

// P1.5: parsing the formatted text of a valid node yields an equal node.
func TestRoundTrip(t *testing.T) {
	g := generator{state: 1}
	for range 5000 {
		checkRoundTrip(t, []sexpr.Node{g.node(6)})
	}
	checkRoundTrip(t, []sexpr.Node{
		word(strings.Repeat("-", api.MaxWord), 0),
		quoted(strings.Repeat(`\`, api.MaxString), 0),
		nest(api.MaxNest, quoted("", 0)),
		nest(api.MaxNest-1, list(0)),
		list(0, word("a", 0), word("b", 0), quoted("", 0), quoted("", 0), list(0)),
	})
	for c := 32; c <= 126; c++ {
		checkRoundTrip(t, []sexpr.Node{quoted(string(rune(c)), 0), quoted("a"+string(rune(c))+string(rune(c)), 0)})
	}
}
