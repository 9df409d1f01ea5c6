package typeterm_test

import (
	"fmt"
	"slices"
	"testing"

	"telpher/api"
	"telpher/typeterm"
)

func named(name string, args ...api.Type) api.Type {
	return api.Type{Kind: api.KindNamed, Name: name, Args: args}
}

func tuple(args ...api.Type) api.Type { return node(api.KindTuple, args...) }

func union(args ...api.Type) api.Type { return node(api.KindUnion, args...) }

func exists(bound, body api.Type) api.Type { return node(api.KindExists, bound, body) }

func variable(index int) api.Type { return api.Type{Kind: api.KindVar, Index: index} }

// node returns a node of any kind, which may be malformed.
func node(kind int, args ...api.Type) api.Type { return api.Type{Kind: kind, Args: args} }

func anyType() api.Type { return api.Type{} }

func never() api.Type { return node(api.KindNever) }

func intType() api.Type { return named("Int") }

func boolType() api.Type { return named("Bool") }

// repeat returns so many copies of t.
func repeat(count int, t api.Type) []api.Type { return slices.Repeat([]api.Type{t}, count) }

// nest puts t into so many tuples, one in another.
func nest(levels int, t api.Type) api.Type {
	for range levels {
		t = tuple(t)
	}
	return t
}

// bind puts t into the bodies of so many existential types.
func bind(bodies int, t api.Type) api.Type {
	for range bodies {
		t = exists(anyType(), t)
	}
	return t
}

// same compares terms in all fields. It does not rely on typeterm.Equal.
func same(a, b api.Type) bool {
	return a.Kind == b.Kind && a.Name == b.Name && a.Index == b.Index && slices.EqualFunc(a.Args, b.Args, same)
}

// oddTerms returns many small terms, most of them malformed, in no particular order.
func oddTerms() []api.Type {
	var leaves []api.Type
	for kind := -1; kind <= api.KindExists+1; kind++ {
		leaves = append(leaves, node(kind), api.Type{Kind: kind, Name: "A"}, api.Type{Kind: kind, Index: 1}, api.Type{Kind: kind, Name: "Any", Index: -1})
	}
	few := []api.Type{anyType(), named("A"), variable(0), variable(1), variable(2), variable(-1)}
	terms := slices.Clone(leaves)
	for _, outer := range leaves {
		for _, a := range few {
			outer.Args = []api.Type{a}
			terms = append(terms, outer)
			for _, b := range few {
				outer.Args = []api.Type{a, b}
				terms = append(terms, outer)
			}
		}
	}
	for kind := api.KindNamed; kind <= api.KindExists; kind++ {
		for _, a := range few {
			inner := node(kind, variable(1), a)
			terms = append(terms, node(api.KindExists, inner, inner, inner), named("B", a, inner), tuple(inner, a))
		}
	}
	return terms
}

// show writes a term with all its fields, nil and empty slices told apart.
func show(t api.Type) string { return fmt.Sprintf("%#v", t) }

func expectTerm(t *testing.T, call string, got, want api.Type) {
	t.Helper()
	if !same(got, want) {
		t.Errorf("%s = %v; want %v", call, got, want)
	}
}

func expectValidate(t *testing.T, term api.Type, want api.Errno) {
	t.Helper()
	if got := typeterm.Validate(term); got != want {
		t.Errorf("Validate(%.200v) = %d; want %d", term, got, want)
	}
}
