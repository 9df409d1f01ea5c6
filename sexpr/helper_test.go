package sexpr_test

import (
	"testing"

	"telpher/api"
	"telpher/sexpr"
)

func word(text string, offset int) sexpr.Node {
	return sexpr.Node{Kind: sexpr.NodeWord, Text: text, Offset: offset}
}

func quoted(text string, offset int) sexpr.Node {
	return sexpr.Node{Kind: sexpr.NodeString, Text: text, Offset: offset}
}

func list(offset int, children ...sexpr.Node) sexpr.Node {
	return sexpr.Node{Kind: sexpr.NodeList, Children: children, Offset: offset}
}

// nest puts n into so many lists, one in another.
func nest(levels int, n sexpr.Node) sexpr.Node {
	for range levels {
		n = list(0, n)
	}
	return n
}

// same compares nodes in every field, offsets included. It does not rely on sexpr.Equal.
func same(a, b []sexpr.Node) bool {
	if len(a) != len(b) {
		return false
	}
	for i := range a {
		if a[i].Kind != b[i].Kind || a[i].Text != b[i].Text || a[i].Offset != b[i].Offset || !same(a[i].Children, b[i].Children) {
			return false
		}
	}
	return true
}

func expectNodes(t *testing.T, src string, want ...sexpr.Node) {
	t.Helper()
	got, fault := sexpr.Parse(src)
	if fault != (api.Fault{}) || !same(got, want) {
		t.Errorf("Parse(%.60q) = %v, %v; want %v", src, got, fault, want)
	}
}

func expectFault(t *testing.T, src string, kind api.Errno, offset int) {
	t.Helper()
	got, fault := sexpr.Parse(src)
	if len(got) != 0 || fault != (api.Fault{Kind: kind, Offset: offset}) {
		t.Errorf("Parse(%.60q) = %d nodes, %v; want fault %d at %d", src, len(got), fault, kind, offset)
	}
}
