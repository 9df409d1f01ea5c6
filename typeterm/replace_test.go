package typeterm_test

import (
	"math"
	"testing"

	"telpher/api"
	"telpher/typeterm"
	. "telpher/typetest"
)

// P2.4: Substitute replaces free variable 0 and decrements the others.
func TestSubstitute(t *testing.T) {
	box := Named("Box", Int())
	for _, c := range []struct{ t, want api.Type }{
		{Any(), Any()},
		{Int(), Int()},
		{Variable(0), box},
		{Variable(1), Variable(0)},
		{Variable(9), Variable(8)},
		{Variable(math.MaxInt), Variable(math.MaxInt - 1)},
		{Named("Map", Variable(0), Named("Box", Variable(0))), Named("Map", box, Named("Box", box))},
		{Tuple(Variable(2), Variable(1), Variable(0)), Tuple(Variable(1), Variable(0), box)},
		{Exists(Any(), Variable(0)), Exists(Any(), Variable(0))},
		{Exists(Any(), Tuple(Variable(0), Variable(1), Variable(2))), Exists(Any(), Tuple(Variable(0), box, Variable(1)))},
		{Exists(Variable(0), Variable(0)), Exists(box, Variable(0))},
		{Exists(Variable(1), Variable(1)), Exists(Variable(0), box)},
		{bind(3, Tuple(Variable(2), Variable(3), Variable(4))), bind(3, Tuple(Variable(2), box, Variable(3)))},
		{bind(1, Exists(Variable(1), Variable(2))), bind(1, Exists(box, box))},
		{Tuple(bind(2, Variable(2)), Variable(2), bind(1, Variable(2))), Tuple(bind(2, box), Variable(1), bind(1, Variable(1)))},
		// Malformed terms.
		{Variable(-1), Variable(-1)},
		{bind(1, Variable(-1)), bind(1, Variable(-1))},
		{api.Type{Kind: api.KindNamed, Name: "A", Index: 1}, api.Type{Kind: api.KindNamed, Name: "A", Index: 1}},
		{api.Type{Kind: 40, Name: "N", Index: 2, Args: []api.Type{Variable(0), Variable(1)}}, api.Type{Kind: 40, Name: "N", Index: 2, Args: []api.Type{box, Variable(0)}}},
		{Node(api.KindExists, Variable(1), Variable(1), Variable(1)), Node(api.KindExists, Variable(0), box, Variable(0))},
		{Node(api.KindExists, Variable(0)), Node(api.KindExists, box)},
		{Node(api.KindVar, Variable(1)), box},
		{api.Type{Kind: api.KindVar, Name: "N", Index: 1, Args: []api.Type{Variable(0)}}, api.Type{Kind: api.KindVar, Name: "N", Args: []api.Type{box}}},
	} {
		expectTerm(t, "Substitute("+show(c.t)+")", typeterm.Substitute(c.t, box), c.want)
	}
}

// P2.4: a term with binders of its own is put in unchanged.
func TestSubstituteBinders(t *testing.T) {
	by := Exists(Any(), Named("Map", Variable(0), Exists(Any(), Named("Box", Variable(1)))))
	got := typeterm.Substitute(bind(2, Tuple(Variable(2), Variable(1), Variable(3))), by)
	expectTerm(t, "Substitute", got, bind(2, Tuple(by, Variable(1), Variable(2))))
}

// P2.4: Instantiate replaces the first free variables and leaves the others.
func TestInstantiate(t *testing.T) {
	a, b := Named("Box", Int()), Exists(Any(), Named("Box", Variable(0)))
	x := Tuple(Variable(0), Variable(1), Variable(2), Named("Map", Variable(1), Variable(3)), bind(2, Tuple(Variable(0), Variable(1), Variable(2), Variable(3), Variable(4))), Variable(-1))
	for _, c := range []struct {
		l    []api.Type
		want api.Type
	}{
		{nil, x},
		{[]api.Type{}, x},
		{[]api.Type{a}, Tuple(a, Variable(1), Variable(2), Named("Map", Variable(1), Variable(3)), bind(2, Tuple(Variable(0), Variable(1), a, Variable(3), Variable(4))), Variable(-1))},
		{[]api.Type{a, b}, Tuple(a, b, Variable(2), Named("Map", b, Variable(3)), bind(2, Tuple(Variable(0), Variable(1), a, b, Variable(4))), Variable(-1))},
		{[]api.Type{b, a, b, Never(), Int()}, Tuple(b, a, b, Named("Map", a, Never()), bind(2, Tuple(Variable(0), Variable(1), b, a, b)), Variable(-1))},
	} {
		expectTerm(t, "Instantiate with "+show(Tuple(c.l...)), typeterm.Instantiate(x, c.l), c.want)
	}
}

// P2.4: Instantiate with plain terms, whose own free variables are kept.
func TestInstantiatePlain(t *testing.T) {
	x := Named("Map", Variable(1), Named("Box", Variable(0)), Variable(2), Exists(Any(), Variable(0)))
	l := []api.Type{Variable(1), Named("Box", Variable(0))}
	want := Named("Map", Named("Box", Variable(0)), Named("Box", Variable(1)), Variable(2), Exists(Any(), Variable(0)))
	expectTerm(t, "Instantiate", typeterm.Instantiate(x, l), want)
}

// P2.4: Instantiate accepts malformed terms.
func TestInstantiateMalformed(t *testing.T) {
	l := []api.Type{Int(), Bool()}
	for _, c := range []struct{ t, want api.Type }{
		{Variable(math.MinInt), Variable(math.MinInt)},
		{Variable(math.MaxInt), Variable(math.MaxInt)},
		{Node(api.KindExists, Variable(1), Variable(1), Variable(1)), Node(api.KindExists, Bool(), Int(), Bool())},
		{Node(-9, Variable(0), Variable(7)), Node(-9, Int(), Variable(7))},
		{Node(api.KindNever, Variable(0)), Node(api.KindNever, Int())},
		{Node(api.KindVar, Variable(1)), Int()},
		{api.Type{Kind: api.KindVar, Index: 2, Args: []api.Type{Variable(1)}}, api.Type{Kind: api.KindVar, Index: 2, Args: []api.Type{Bool()}}},
	} {
		expectTerm(t, "Instantiate("+show(c.t)+")", typeterm.Instantiate(c.t, l), c.want)
	}
}

// P2.4: on terms with at most one free variable, both functions agree; a closed term is not changed.
func TestReplacementsAgree(t *testing.T) {
	for _, x := range oddTerms() {
		free := typeterm.FreeVars(x)
		substituted := typeterm.Substitute(x, Int())
		instantiated := typeterm.Instantiate(x, []api.Type{Int()})
		if len(free) == 0 {
			expectTerm(t, "Substitute", substituted, x)
			expectTerm(t, "Instantiate", instantiated, x)
		}
		if len(free) == 1 && free[0] == 0 {
			expectTerm(t, "Substitute", substituted, instantiated)
			if len(typeterm.FreeVars(substituted)) != 0 {
				t.Errorf("Substitute(%v) = %v", x, substituted)
			}
		}
	}
}
