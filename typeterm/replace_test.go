package typeterm_test

import (
	"math"
	"testing"

	"telpher/api"
	"telpher/typeterm"
)

// P2.4: Substitute replaces free variable 0 and decrements the others.
func TestSubstitute(t *testing.T) {
	box := named("Box", intType())
	for _, c := range []struct{ t, want api.Type }{
		{anyType(), anyType()},
		{intType(), intType()},
		{variable(0), box},
		{variable(1), variable(0)},
		{variable(9), variable(8)},
		{variable(math.MaxInt), variable(math.MaxInt - 1)},
		{named("Map", variable(0), named("Box", variable(0))), named("Map", box, named("Box", box))},
		{tuple(variable(2), variable(1), variable(0)), tuple(variable(1), variable(0), box)},
		{exists(anyType(), variable(0)), exists(anyType(), variable(0))},
		{exists(anyType(), tuple(variable(0), variable(1), variable(2))), exists(anyType(), tuple(variable(0), box, variable(1)))},
		{exists(variable(0), variable(0)), exists(box, variable(0))},
		{exists(variable(1), variable(1)), exists(variable(0), box)},
		{bind(3, tuple(variable(2), variable(3), variable(4))), bind(3, tuple(variable(2), box, variable(3)))},
		{bind(1, exists(variable(1), variable(2))), bind(1, exists(box, box))},
		{tuple(bind(2, variable(2)), variable(2), bind(1, variable(2))), tuple(bind(2, box), variable(1), bind(1, variable(1)))},
		// Malformed terms.
		{variable(-1), variable(-1)},
		{bind(1, variable(-1)), bind(1, variable(-1))},
		{api.Type{Kind: api.KindNamed, Name: "A", Index: 1}, api.Type{Kind: api.KindNamed, Name: "A", Index: 1}},
		{api.Type{Kind: 40, Name: "N", Index: 2, Args: []api.Type{variable(0), variable(1)}}, api.Type{Kind: 40, Name: "N", Index: 2, Args: []api.Type{box, variable(0)}}},
		{node(api.KindExists, variable(1), variable(1), variable(1)), node(api.KindExists, variable(0), box, variable(0))},
		{node(api.KindExists, variable(0)), node(api.KindExists, box)},
		{node(api.KindVar, variable(1)), box},
		{api.Type{Kind: api.KindVar, Name: "N", Index: 1, Args: []api.Type{variable(0)}}, api.Type{Kind: api.KindVar, Name: "N", Args: []api.Type{box}}},
	} {
		expectTerm(t, "Substitute("+show(c.t)+")", typeterm.Substitute(c.t, box), c.want)
	}
}

// P2.4: a term with binders of its own is put in unchanged.
func TestSubstituteBinders(t *testing.T) {
	by := exists(anyType(), named("Map", variable(0), exists(anyType(), named("Box", variable(1)))))
	got := typeterm.Substitute(bind(2, tuple(variable(2), variable(1), variable(3))), by)
	expectTerm(t, "Substitute", got, bind(2, tuple(by, variable(1), variable(2))))
}

// P2.4: Instantiate replaces the first free variables and leaves the others.
func TestInstantiate(t *testing.T) {
	a, b := named("Box", intType()), exists(anyType(), named("Box", variable(0)))
	x := tuple(variable(0), variable(1), variable(2), named("Map", variable(1), variable(3)), bind(2, tuple(variable(0), variable(1), variable(2), variable(3), variable(4))), variable(-1))
	for _, c := range []struct {
		l    []api.Type
		want api.Type
	}{
		{nil, x},
		{[]api.Type{}, x},
		{[]api.Type{a}, tuple(a, variable(1), variable(2), named("Map", variable(1), variable(3)), bind(2, tuple(variable(0), variable(1), a, variable(3), variable(4))), variable(-1))},
		{[]api.Type{a, b}, tuple(a, b, variable(2), named("Map", b, variable(3)), bind(2, tuple(variable(0), variable(1), a, b, variable(4))), variable(-1))},
		{[]api.Type{b, a, b, never(), intType()}, tuple(b, a, b, named("Map", a, never()), bind(2, tuple(variable(0), variable(1), b, a, b)), variable(-1))},
	} {
		expectTerm(t, "Instantiate with "+show(tuple(c.l...)), typeterm.Instantiate(x, c.l), c.want)
	}
}

// P2.4: Instantiate with plain terms, whose own free variables are kept.
func TestInstantiatePlain(t *testing.T) {
	x := named("Map", variable(1), named("Box", variable(0)), variable(2), exists(anyType(), variable(0)))
	l := []api.Type{variable(1), named("Box", variable(0))}
	want := named("Map", named("Box", variable(0)), named("Box", variable(1)), variable(2), exists(anyType(), variable(0)))
	expectTerm(t, "Instantiate", typeterm.Instantiate(x, l), want)
}

// P2.4: Instantiate accepts malformed terms.
func TestInstantiateMalformed(t *testing.T) {
	l := []api.Type{intType(), boolType()}
	for _, c := range []struct{ t, want api.Type }{
		{variable(math.MinInt), variable(math.MinInt)},
		{variable(math.MaxInt), variable(math.MaxInt)},
		{node(api.KindExists, variable(1), variable(1), variable(1)), node(api.KindExists, boolType(), intType(), boolType())},
		{node(-9, variable(0), variable(7)), node(-9, intType(), variable(7))},
		{node(api.KindNever, variable(0)), node(api.KindNever, intType())},
		{node(api.KindVar, variable(1)), intType()},
		{api.Type{Kind: api.KindVar, Index: 2, Args: []api.Type{variable(1)}}, api.Type{Kind: api.KindVar, Index: 2, Args: []api.Type{boolType()}}},
	} {
		expectTerm(t, "Instantiate("+show(c.t)+")", typeterm.Instantiate(c.t, l), c.want)
	}
}

// P2.4: on terms with at most one free variable, both functions agree; a closed term is not changed.
func TestReplacementsAgree(t *testing.T) {
	for _, x := range oddTerms() {
		free := typeterm.FreeVars(x)
		substituted := typeterm.Substitute(x, intType())
		instantiated := typeterm.Instantiate(x, []api.Type{intType()})
		if len(free) == 0 {
			expectTerm(t, "Substitute", substituted, x)
			expectTerm(t, "Instantiate", instantiated, x)
		}
		if len(free) == 1 && free[0] == 0 {
			expectTerm(t, "Substitute", substituted, instantiated)
			if len(typeterm.FreeVars(substituted)) != 0 {
				t.Errorf("Substitute(%v) = %v", x, substituted)
			}
		}
	}
}
