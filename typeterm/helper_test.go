package typeterm_test

import (
	"fmt"
	"slices"
	"testing"

	"telpher/api"
	"telpher/typeterm"
	. "telpher/typetest"
)

// bind puts t into the bodies of so many existential types.
func bind(bodies int, t api.Type) api.Type {
	for range bodies {
		t = Exists(Any(), t)
	}
	return t
}

// oddTerms returns many small terms, most of them malformed, in no particular order.
func oddTerms() []api.Type {
	var leaves []api.Type
	for kind := -1; kind <= api.KindExists+1; kind++ {
		leaves = append(leaves, Node(kind), api.Type{Kind: kind, Name: "A"}, api.Type{Kind: kind, Index: 1}, api.Type{Kind: kind, Name: "Any", Index: -1})
	}
	few := []api.Type{Any(), Named("A"), Variable(0), Variable(1), Variable(2), Variable(-1)}
	terms := slices.Clone(leaves)
	for _, outer := range leaves {
		for _, a := range few {
			outer.Args = []api.Type{a}
			terms = append(terms, outer)
			for _, b := range few {
				outer.Args = []api.Type{a, b}
				terms = append(terms, outer)
			}
		}
	}
	for kind := api.KindNamed; kind <= api.KindExists; kind++ {
		for _, a := range few {
			inner := Node(kind, Variable(1), a)
			terms = append(terms, Node(api.KindExists, inner, inner, inner), Named("B", a, inner), Tuple(inner, a))
		}
	}
	return terms
}

// show writes a term with all its fields, nil and empty slices told apart.
func show(t api.Type) string { return fmt.Sprintf("%#v", t) }

func expectTerm(t *testing.T, call string, got, want api.Type) {
	t.Helper()
	if !Same(got, want) {
		t.Errorf("%s = %v; want %v", call, got, want)
	}
}

func expectValidate(t *testing.T, term api.Type, want api.Errno) {
	t.Helper()
	if got := typeterm.Validate(term); got != want {
		t.Errorf("Validate(%.200v) = %d; want %d", term, got, want)
	}
}
